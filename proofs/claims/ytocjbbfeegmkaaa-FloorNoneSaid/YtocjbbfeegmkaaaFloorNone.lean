/-
  FloorNone: no floor has nothing, and does nothing; for any thread, any event.
  Conditions: none.
-/
import Derived.Test.YtocjbbfeegmkaaaRows
import Derived.Test.YtocjbbfeegmkaaaAlive13
import Derived.Test.YtocjbbfeegmkaaaFlZ
import Derived.Test.YtocjbbfeegmkaaaOpenB
namespace Go.Proofs.Ytocjbbfeegmkaaa.floorNone
open Go.ChangeShapes Go.WideShapes Go.ChangeAt Go.RowKit Go.Proofs.Ytocjbbfeegmkaaa.base Go.Proofs.Ytocjbbfeegmkaaa.fl
set_option linter.unusedVariables false

set_option maxRecDepth 100000 in
theorem walk (a0 : Int) (z1 : Nat → Int) (w : World) (w0 : (Lit.int .i64 a0).wf = true) (w1 : ∀ i, i < 7 → (Lit.int .i64 (z1 i)).wf = true) :
    Calls Try.prog 3 #[.int .i64 a0, .agg ⟨(List.range 7).map fun i => .int .i64 (z1 i)⟩] w fun e w' => e = .returned (.bool true) ∧ Below w.heap.size w w' := by
  show Calls Try.prog 3 #[.int .i64 a0, .agg #[.int .i64 (z1 0), .int .i64 (z1 1), .int .i64 (z1 2), .int .i64 (z1 3), .int .i64 (z1 4), .int .i64 (z1 5), .int .i64 (z1 6)]] w fun e w' => e = .returned (.bool true) ∧ Below w.heap.size w w'
  have O0 := Lib.hid ((base.Own.start w).alloc 23 [.int .i64 (z1 0), .int .i64 (z1 1), .int .i64 (z1 2), .int .i64 (z1 3), .int .i64 (z1 4), .int .i64 (z1 5), .int .i64 (z1 6)])
  have NO := Lib.hid (fun u => note_nil z1 u)
  clear w0 w1
  generalize z1 0 = x0 at *
  generalize z1 1 = x1 at *
  generalize z1 2 = x2 at *
  generalize z1 3 = x3 at *
  generalize z1 4 = x4 at *
  generalize z1 5 = x5 at *
  generalize z1 6 = x6 at *
  go_enter Try.func3, Try.ntmps3
  go_wp2_with fail
  refine (alive_any _).mono ?_
  rintro e v1 ⟨rfl, g1⟩
  have O1 := Lib.hid (O0.out.grown g1.out)
  have c0 := O1.out.cell 0 0 rfl rfl; have c1 := O1.out.cell 0 1 rfl rfl; have c2 := O1.out.cell 0 2 rfl rfl; have c3 := O1.out.cell 0 3 rfl rfl; have c4 := O1.out.cell 0 4 rfl rfl; have c5 := O1.out.cell 0 5 rfl rfl; have c6 := O1.out.cell 0 6 rfl rfl
  clear O0 g1
  go_wp2_with fail
  refine (NO.out _).mono ?_
  rintro e v2 ⟨rfl, g2⟩
  have O2 := Lib.hid (O1.out.grown g2.out)
  clear O1 g2 c0 c1 c2 c3 c4 c5 c6
  go_wp2_with fail
  refine (config_nil _).mono ?_
  rintro e v3 ⟨rfl, g3⟩
  have O3 := Lib.hid (O2.out.grown g3.out)
  clear O2 g3
  go_wp2_with fail
  refine (arena_nil _).mono ?_
  rintro e v ⟨rfl, rfl⟩
  go_wp2_with fail
  refine (table_nil _).mono ?_
  rintro e v ⟨rfl, rfl⟩
  go_wp2_with fail
  refine (cells_nil _).mono ?_
  rintro e v ⟨rfl, rfl⟩
  go_wp2_with fail
  refine (tickets_nil _).mono ?_
  rintro e v ⟨rfl, rfl⟩
  go_wp2_with fail
  refine (gate_nil _).mono ?_
  rintro e v ⟨rfl, rfl⟩
  go_wp2_with fail
  refine (manager_nil _).mono ?_
  rintro e v ⟨rfl, rfl⟩
  go_wp2_with fail
  refine (draw_nil _ _).mono ?_
  rintro e v ⟨rfl, rfl⟩
  go_wp2_with fail
  refine (trace_nil _).mono ?_
  rintro e v ⟨rfl, rfl⟩
  go_wp2_with fail
  refine (values_nil _).mono ?_
  rintro e v ⟨rfl, rfl⟩
  go_wp2
  go_ret
  exact ⟨rfl, gb_below O3.out.grow⟩

theorem own : ownKnob Try.prog.godebug = none := by kernel_rfl
theorem laidOut : laidOutB Try.prog = true := by kernel_rfl

/-! ### THE ROW's STEP, as the guide has it -/
set_option maxRecDepth 100000 in
theorem lifted (os : Os) (started : os.Started) (H : Type) (enc : TypeId × Value → H) :
    ReturnsInHanded {} Try.checked os 3 .any (Rows.floorNoneSpec.pre6 enc Try.prog Try.f3 Rows.floorNoneRow.domain false) (Rows.floorNoneSpec.post enc Try.prog Try.f3 false true false false) := by
  refine returnsInHanded_of_change (C := Try.checked) own started (by kernel_rfl) Try.func3
    (ChangeSpec.witness6 (enc := enc) (C := Try.checked) false ⟨#[], #[.int .i64 0, .agg #[.int .i64 0, .int .i64 0, .int .i64 0, .int .i64 0, .int .i64 0, .int .i64 0, .int .i64 0]], []⟩ 8 (by kernel_rfl) (by kernel_rfl) (by kernel_rfl) (by kernel_rfl)) ?_
  intro W base args ds gs before hval0 hW hcnd _
  have hval : ∀ (j : Nat) t v, Try.f3.params[j]? = some t → args[j]? = some v → Value.okWide Try.prog W .any base t v := hval0
  have hW' := hW
  obtain ⟨p, q, hA0, hV, rfl, hfz, hnd⟩ := hW
  have hA : DataW.TrodAll enc Try.prog W 0 (fun _ => true) true Try.f3.params.toList args.toList ds p := hA0
  rw [Try.params3] at hA hval
  obtain ⟨v0, vs0, d0, ds0, p0, q0, hargs, rfl, rfl, h0, r0⟩ := trodAll_cons hA
  obtain ⟨v1, vs1, d1, ds1, p1, q1, rfl, rfl, rfl, h1, r1⟩ := trodAll_cons r0
  obtain ⟨rfl, rfl, rfl⟩ := trodAll_nil r1
  obtain rfl : args = #[v0, v1] := by cases args; simp_all
  obtain ⟨rfl, rfl⟩ := trodVars_none hV
  obtain ⟨a0, rfl, rfl, rfl, w0⟩ := open_int Try.underlying3 (hval 0 3 v0 rfl rfl) h0
  obtain ⟨cs1, rfl, sz1⟩ := okWide_struct Try.underlying23 (hval 1 23 v1 rfl rfl)
  have k1 := h1
  have lt1 : ∀ x ∈ p1, x.block < W.heap.size := by obtain ⟨m, hm⟩ := k1; exact DataW.trod_lt m _ _ _ hm
  obtain ⟨z1, w1, rfl⟩ : ∃ z : Nat → Int, (∀ i, i < 7 → (Lit.int .i64 (z i)).wf = true) ∧ cs1 = ⟨(List.range 7).map fun i => .int .i64 (z i)⟩ := by
    obtain ⟨fuel, hf⟩ := h1
    exact isAgg_of Try.underlying23 Try.underlying3 Try.underlying2 (by kernel_rfl) (by kernel_rfl) (sz1.trans (by kernel_rfl)) (by decide) hf
  clear hA0 hval0
  refine (walk a0 z1 W w0 w1).mono fun e W' ⟨he, bel⟩ => ?_
  subst he
  exact ⟨_, rfl, _, _, _, [], _, [], hW', trodAll_mk1 (shut_bool Try.underlying4 _), (trodAll_cons_mk (shut_int Try.underlying3 w0) (trodAll_cons_mk (Below.trod laidOut (by kernel_rfl) (of_decide_eq_true (by kernel_rfl)) k1 bel lt1) trodAll_mk0)), rfl, bel.frame _, fun h => by cases h⟩

theorem over : Rows.floorNoneRow.holds Try.pinned (OpenSpec.ofChange Rows.floorNoneSpec) :=
  OpenClaim.holds_of_wide 3 Try.f3 rfl rfl rfl rfl rfl rfl rfl ⟨rfl, rfl, rfl, rfl, rfl⟩ rfl rfl rfl rfl rfl (by kernel_rfl) Try.func3 (by kernel_rfl)
    (of_decide_eq_true (by kernel_rfl)) (by unfold Func.isWrapper; first | (rw [if_pos (by decide +kernel)]; kernel_rfl) | (rw [if_neg (by decide +kernel)]; exact ⟨rfl, rfl⟩))
    (fun os started H enc _ => lifted os started H enc)

theorem proved : Rows.FloorNoneSaid := over
#print axioms proved
end Go.Proofs.Ytocjbbfeegmkaaa.floorNone
