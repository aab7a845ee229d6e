/-
  GateNone: no gate has nothing: no sight, no swap, no leave, no beat, no pulse; for any sight, stamp and thread.
  Conditions: none.
-/
import Derived.Test.YtelapiabniabkaaRows
import Derived.Test.YtelapiabniabkaaOpen
import Derived.Test.YtelapiabniabkaaOpenB
import Derived.Test.YtelapiabniabkaaGtC
namespace Go.Proofs.Ytelapiabniabkaa.gateNone
open Go.ChangeShapes Go.WideShapes Go.ChangeAt Go.RowKit Go.Proofs.Ytelapiabniabkaa.base Go.Proofs.Ytelapiabniabkaa.ch Go.Proofs.Ytelapiabniabkaa.gate
set_option linter.unusedVariables false

theorem walk1 (xb : Bool) (xs xt xp st th : Int) (w : World) :
    Calls Try.prog 6 #[.agg #[.bool xb, .int .i64 xs, .int .i64 xt, .int .i64 xp], .int .i64 st, .int .i64 th] w fun e w' => e = .returned (.bool true) ∧ Below w.heap.size w w' := by
  go_enter Try.func6, Try.ntmps6
  go_wp2_with fail
  refine (alive_any _).mono ?_
  rintro e v1 ⟨rfl, g1⟩
  have M1 := Lib.hid (((Own.start w).alloc 36 [.bool xb, .int .i64 xs, .int .i64 xt, .int .i64 xp]).grown g1.out)
  clear g1
  go_wp2_with fail
  refine (see_nil _).mono ?_
  rintro e v2 ⟨rfl, g2⟩
  have M2 := Lib.hid (M1.out.grown g2.out)
  clear g2
  have c0 := M2.out.cell 0 0 rfl rfl; have c1 := M2.out.cell 0 1 rfl rfl; have c2 := M2.out.cell 0 2 rfl rfl; have c3 := M2.out.cell 0 3 rfl rfl
  go_wp2_with fail
  refine (swap_nil xb xs xt xp st th _).mono ?_
  rintro e v3 ⟨rfl, g3⟩
  go_wp2_with fail
  refine (leave_nil st th _).mono ?_
  rintro e v4 ⟨rfl, g4⟩
  go_wp2_with fail
  refine (beat_nil th _).mono ?_
  rintro e v5 ⟨rfl, rfl⟩
  go_wp2_with fail
  refine (pulse_nil th _).mono ?_
  rintro e v6 ⟨rfl, rfl⟩
  go_wp2
  go_ret
  exact ⟨rfl, ((M2.out.grown g3.out).grown g4.out).below⟩

theorem walk (z0 : Nat → Int) (y0 : Nat → Bool) (a1 a2 : Int) (w : World) (w0 : ∀ i, i < 4 → (Lit.int .i64 (z0 i)).wf = true) (w1 : (Lit.int .i64 a1).wf = true) (w2 : (Lit.int .i64 a2).wf = true) :
    Calls Try.prog 6 #[.agg #[.bool (y0 0), .int .i64 (z0 1), .int .i64 (z0 2), .int .i64 (z0 3)], .int .i64 a1, .int .i64 a2] w fun e w' => e = .returned (.bool true) ∧ Below w.heap.size w w' :=
  walk1 _ _ _ _ _ _ w

theorem own : ownKnob Try.prog.godebug = none := by kernel_rfl
theorem laidOut : laidOutB Try.prog = true := by kernel_rfl

/-! ### THE ROW's STEP, as the guide has it -/
set_option maxRecDepth 100000 in
theorem lifted (os : Os) (started : os.Started) (H : Type) (enc : TypeId × Value → H) :
    ReturnsInHanded {} Try.checked os 6 .any (Rows.gateNoneSpec.pre6 enc Try.prog Try.f6 Rows.gateNoneRow.domain false) (Rows.gateNoneSpec.post enc Try.prog Try.f6 false true false false) := by
  refine returnsInHanded_of_change (C := Try.checked) own started (by kernel_rfl) Try.func6
    (ChangeSpec.witness6 (enc := enc) (C := Try.checked) false ⟨#[], #[.agg #[.bool false, .int .i64 0, .int .i64 0, .int .i64 0], .int .i64 0, .int .i64 0], []⟩ 8 (by kernel_rfl) (by kernel_rfl) (by kernel_rfl) (by kernel_rfl)) ?_
  intro W base args ds gs before hval0 hW hcnd _
  have hval : ∀ (j : Nat) t v, Try.f6.params[j]? = some t → args[j]? = some v → Value.okWide Try.prog W .any base t v := hval0
  have hW' := hW
  obtain ⟨p, q, hA0, hV, rfl, hfz, hnd⟩ := hW
  have hA : DataW.TrodAll enc Try.prog W 0 (fun _ => true) true Try.f6.params.toList args.toList ds p := hA0
  rw [Try.params6] at hA hval
  obtain ⟨v0, vs0, d0, ds0, p0, q0, hargs, rfl, rfl, h0, r0⟩ := trodAll_cons hA
  obtain ⟨v1, vs1, d1, ds1, p1, q1, rfl, rfl, rfl, h1, r1⟩ := trodAll_cons r0
  obtain ⟨v2, vs2, d2, ds2, p2, q2, rfl, rfl, rfl, h2, r2⟩ := trodAll_cons r1
  obtain ⟨rfl, rfl, rfl⟩ := trodAll_nil r2
  obtain rfl : args = #[v0, v1, v2] := by cases args; simp_all
  obtain ⟨rfl, rfl⟩ := trodVars_none hV
  obtain ⟨cs0, rfl, sz0⟩ := okWide_struct Try.underlying36 (hval 0 36 v0 rfl rfl)
  have k0 := h0
  have lt0 : ∀ x ∈ p0, x.block < W.heap.size := by obtain ⟨m, hm⟩ := k0; exact DataW.trod_lt m _ _ _ hm
  obtain ⟨z0, y0, w0, rfl⟩ : ∃ (z : Nat → Int) (y : Nat → Bool), (∀ i, i < 4 → (Lit.int .i64 (z i)).wf = true) ∧ cs0 = ⟨(List.range 4).map (mixed (fun j => j == 0) z y)⟩ := by
    obtain ⟨fuel, hf⟩ := h0
    exact isMix_of (fun j => j == 0) Try.underlying36 Try.underlying3 Try.underlying4 (by kernel_rfl) (by kernel_rfl) (sz0.trans (by kernel_rfl)) (by decide) hf
  obtain ⟨a1, rfl, rfl, rfl, w1⟩ := open_int Try.underlying3 (hval 1 3 v1 rfl rfl) h1
  obtain ⟨a2, rfl, rfl, rfl, w2⟩ := open_int Try.underlying3 (hval 2 3 v2 rfl rfl) h2
  clear hA0 hval0
  refine (walk z0 y0 a1 a2 W w0 w1 w2).mono fun e W' ⟨he, bel⟩ => ?_
  subst he
  exact ⟨_, rfl, _, _, _, [], _, [], hW', trodAll_mk1 (shut_bool Try.underlying4 _), (trodAll_cons_mk (Below.trod laidOut (by kernel_rfl) (of_decide_eq_true (by kernel_rfl)) k0 bel lt0) (trodAll_cons_mk (shut_int Try.underlying3 w1) (trodAll_cons_mk (shut_int Try.underlying3 w2) trodAll_mk0))), rfl, bel.frame _, fun h => by cases h⟩

theorem over : Rows.gateNoneRow.holds Try.pinned (OpenSpec.ofChange Rows.gateNoneSpec) :=
  OpenClaim.holds_of_wide 6 Try.f6 rfl rfl rfl rfl rfl rfl rfl ⟨rfl, rfl, rfl, rfl, rfl⟩ rfl rfl rfl rfl rfl (by kernel_rfl) Try.func6 (by kernel_rfl)
    (of_decide_eq_true (by kernel_rfl)) (by unfold Func.isWrapper; first | (rw [if_pos (by decide +kernel)]; kernel_rfl) | (rw [if_neg (by decide +kernel)]; exact ⟨rfl, rfl⟩))
    (fun os started H enc _ => lifted os started H enc)

theorem proved : Rows.GateNoneSaid := over
#print axioms proved
end Go.Proofs.Ytelapiabniabkaa.gateNone
