/-
  DescNone: of no arena there is no table, and no table has nothing: no descriptor begins there, no number has a record, a status, a priority, or waits, none is turned, raised, or let wait, and there are none; for any number, any status and either bool.
  Conditions: none.
-/
import Derived.Test.YtpllfichmpappaaRows
import Derived.Test.YtpllfichmpappaaOpen
import Derived.Test.YtpllfichmpappaaMade03
import Derived.Test.YtpllfichmpappaaEqRec
namespace Go.Proofs.Ytpllfichmpappaa.descNone
open Go.ChangeShapes Go.WideShapes Go.ChangeAt Go.RowKit Go.Proofs.Ytpllfichmpappaa.base Go.Proofs.Ytpllfichmpappaa.ar Go.Proofs.Ytpllfichmpappaa.ds
set_option linter.unusedVariables false

set_option maxRecDepth 100000 in
set_option maxHeartbeats 1000000 in
theorem walk (a0 a1 : Int) (a2 : Bool) (w : World) (w0 : (Lit.int .i64 a0).wf = true) (w1 : (Lit.int .i64 a1).wf = true) :
    Calls Try.prog 4 #[.int .i64 a0, .int .i64 a1, .bool a2] w fun e w' => e = .returned (.bool true) ∧ Below w.heap.size w w' := by
  clear w0 w1
  go_enter Try.func4, Try.ntmps4
  go_wp2_with fail
  refine (alive_any _).mono ?_
  rintro e v1 ⟨rfl, B1⟩
  go_wp2_with fail
  refine (new_nil _).mono ?_
  rintro e v2 ⟨rfl, rfl⟩
  go_wp2_with fail
  refine (begin_nil 1 1 1 1 1 _).mono ?_
  rintro e v3 ⟨rfl, g3⟩
  have B3 := Lib.hid (bl_none B1.out g3.out)
  clear B1 g3
  go_wp2_with fail
  refine (rec_nil a0 _).mono ?_
  rintro e v4 ⟨rfl, g4⟩
  have B4 := Lib.hid (bl_none B3.out g4.out)
  clear B3 g4
  go_wp2_with fail
  refine (status_nil a0 _).mono ?_
  rintro e v5 ⟨rfl, g5⟩
  have B5 := Lib.hid (bl_none B4.out (gb_trans (gb_alloc (gb_refl _ _) _) g5.out))
  clear B4 g5
  go_wp2_with fail
  refine (turn_nil a0 a1 _).mono ?_
  rintro e v6 ⟨rfl, g6⟩
  have B6 := Lib.hid (bl_none B5.out g6.out)
  clear B5 g6
  go_wp2_with fail
  refine (priority_nil a0 _).mono ?_
  rintro e v7 ⟨rfl, g7⟩
  have B7 := Lib.hid (bl_none B6.out g7.out)
  clear B6 g7
  go_wp2_with fail
  refine (raise_nil a0 _).mono ?_
  rintro e v8 ⟨rfl, g8⟩
  have B8 := Lib.hid (bl_none B7.out g8.out)
  clear B7 g8
  go_wp2_with fail
  refine (waiting_nil a0 _).mono ?_
  rintro e v9 ⟨rfl, g9⟩
  have B9 := Lib.hid (bl_none B8.out g9.out)
  clear B8 g9
  go_wp2_with fail
  refine (wait_nil a0 a2 _).mono ?_
  rintro e v10 ⟨rfl, g10⟩
  have B10 := Lib.hid (bl_none B9.out g10.out)
  clear B9 g10
  go_wp2_with fail
  refine (count_nil _).mono ?_
  rintro e v11 ⟨rfl, rfl⟩
  go_wp2
  go_ret
  exact ⟨by rfl, B10.out⟩

theorem own : ownKnob Try.prog.godebug = none := by kernel_rfl
theorem laidOut : laidOutB Try.prog = true := by kernel_rfl

/-! ### THE ROW's STEP, as the guide has it -/
set_option maxRecDepth 100000 in
theorem lifted (os : Os) (started : os.Started) (H : Type) (enc : TypeId × Value → H) :
    ReturnsInHanded {} Try.checked os 4 .any (Rows.descNoneSpec.pre6 enc Try.prog Try.f4 Rows.descNoneRow.domain false) (Rows.descNoneSpec.post enc Try.prog Try.f4 false true false false) := by
  refine returnsInHanded_of_change (C := Try.checked) own started (by kernel_rfl) Try.func4
    (ChangeSpec.witness6 (enc := enc) (C := Try.checked) false ⟨#[], #[.int .i64 0, .int .i64 0, .bool false], []⟩ 8 (by kernel_rfl) (by kernel_rfl) (by kernel_rfl) (by kernel_rfl)) ?_
  intro W base args ds gs before hval0 hW hcnd _
  have hval : ∀ (j : Nat) t v, Try.f4.params[j]? = some t → args[j]? = some v → Value.okWide Try.prog W .any base t v := hval0
  have hW' := hW
  obtain ⟨p, q, hA0, hV, rfl, hfz, hnd⟩ := hW
  have hA : DataW.TrodAll enc Try.prog W 0 (fun _ => true) true Try.f4.params.toList args.toList ds p := hA0
  rw [Try.params4] at hA hval
  obtain ⟨v0, vs0, d0, ds0, p0, q0, hargs, rfl, rfl, h0, r0⟩ := trodAll_cons hA
  obtain ⟨v1, vs1, d1, ds1, p1, q1, rfl, rfl, rfl, h1, r1⟩ := trodAll_cons r0
  obtain ⟨v2, vs2, d2, ds2, p2, q2, rfl, rfl, rfl, h2, r2⟩ := trodAll_cons r1
  obtain ⟨rfl, rfl, rfl⟩ := trodAll_nil r2
  obtain rfl : args = #[v0, v1, v2] := by cases args; simp_all
  obtain ⟨rfl, rfl⟩ := trodVars_none hV
  obtain ⟨a0, rfl, rfl, rfl, w0⟩ := open_int Try.underlying3 (hval 0 3 v0 rfl rfl) h0
  obtain ⟨a1, rfl, rfl, rfl, w1⟩ := open_int Try.underlying3 (hval 1 3 v1 rfl rfl) h1
  obtain ⟨a2, rfl, rfl, rfl⟩ := open_bool Try.underlying4 (hval 2 4 v2 rfl rfl) h2
  clear hA0 hval0
  refine (walk a0 a1 a2 W w0 w1).mono fun e W' ⟨he, bel⟩ => ?_
  subst he
  exact ⟨_, rfl, _, _, _, [], _, [], hW', trodAll_mk1 (shut_bool Try.underlying4 _), (trodAll_cons_mk (shut_int Try.underlying3 w0) (trodAll_cons_mk (shut_int Try.underlying3 w1) (trodAll_cons_mk (shut_bool Try.underlying4 _) trodAll_mk0))), rfl, bel.frame _, fun h => by cases h⟩

theorem over : Rows.descNoneRow.holds Try.pinned (OpenSpec.ofChange Rows.descNoneSpec) :=
  OpenClaim.holds_of_wide 4 Try.f4 rfl rfl rfl rfl rfl rfl rfl ⟨rfl, rfl, rfl, rfl, rfl⟩ rfl rfl rfl rfl rfl (by kernel_rfl) Try.func4 (by kernel_rfl)
    (of_decide_eq_true (by kernel_rfl)) (by unfold Func.isWrapper; first | (rw [if_pos (by decide +kernel)]; kernel_rfl) | (rw [if_neg (by decide +kernel)]; exact ⟨rfl, rfl⟩))
    (fun os started H enc _ => lifted os started H enc)

theorem proved : Rows.DescNoneSaid := over
#print axioms proved
end Go.Proofs.Ytpllfichmpappaa.descNone
