/-
  CellsNone: on no arena there are no cells, and no cells have nothing: no objects, no numbers, no locators, no versions, no values, nothing is swapped or built, and there are none; for any numbers, and any value.
  Conditions: none.
-/
import Derived.Test.YticlmcoegcfanaaRows
import Derived.Test.YticlmcoegcfanaaOpen
import Derived.Test.YticlmcoegcfanaaMade04
import Derived.Test.YticlmcoegcfanaaEqRec
namespace Go.Proofs.Yticlmcoegcfanaa.cellsNone
open Go.ChangeShapes Go.WideShapes Go.ChangeAt Go.RowKit Go.Proofs.Yticlmcoegcfanaa.base Go.Proofs.Yticlmcoegcfanaa.ar Go.Proofs.Yticlmcoegcfanaa.ce
set_option linter.unusedVariables false

set_option maxRecDepth 100000 in
set_option maxHeartbeats 2000000 in
theorem walk (a0 a1 a2 : Int) (w : World) (w0 : (Lit.int .i64 a0).wf = true) (w1 : (Lit.int .i64 a1).wf = true) (w2 : (Lit.int .i64 a2).wf = true) :
    Calls Try.prog 6 #[.int .i64 a0, .int .i64 a1, .int .i64 a2] w fun e w' => e = .returned (.bool true) ∧ Below w.heap.size w w' := by
  clear w0 w1 w2
  go_enter Try.func6, Try.ntmps6
  go_wp2_with fail
  refine (alive_any _).mono ?_
  rintro e v1 ⟨rfl, B1⟩
  go_wp2_with fail
  refine (cells_new_nil _ _ _ _).mono ?_
  rintro e v2 ⟨rfl, g2⟩
  have B2 := Lib.hid (bl_none B1.out (gb_trans (gb_alloc (gb_refl _ _) _) g2.out))
  clear B1 g2
  go_wp2_with fail
  refine (nil_load a0 _).mono ?_
  rintro e v3 ⟨rfl, g3⟩
  have B3 := Lib.hid (bl_none B2.out g3.out)
  clear B2 g3
  go_wp2_with fail
  refine (nil_locator a0 _).mono ?_
  rintro e v4 ⟨rfl, g4⟩
  have B4 := Lib.hid (bl_none B3.out g4.out)
  clear B3 g4
  go_wp2_with fail
  refine (nil_value a0 _).mono ?_
  rintro e v5 ⟨rfl, g5⟩
  have B5 := Lib.hid (bl_none B4.out (gb_trans (gb_alloc (gb_refl _ _) _) g5.out))
  have L5 := Lib.hid ((Blk.made v4 45 #[.int .i64 0, .int .i64 0, .int .i64 0, .int .i64 0, .int .i64 0, .int .i64 0, .int .i64 0, .int .i64 0, .int .i64 0]).grown g5.out (by simp))
  clear B4 g5
  go_wp2_with fail
  refine (nil_version a2 _).mono ?_
  rintro e v6 ⟨rfl, g6⟩
  have B6 := Lib.hid (bl_none B5.out g6.out)
  have L6 := Lib.hid (L5.out.grown g6.out (by simp))
  clear B5 L5 g6
  go_wp2_with fail
  refine (nil_build a0 a1 a1 _).mono ?_
  rintro e v7 ⟨rfl, g7⟩
  have B7 := Lib.hid (bl_none B6.out g7.out)
  have L7 := Lib.hid (L6.out.grown g7.out (by simp))
  clear B6 L6 g7
  go_wp2_with fail
  refine (nil_current a0 _).mono ?_
  rintro e v8 ⟨rfl, g8⟩
  have B8 := Lib.hid (bl_none B7.out g8.out)
  have L8 := Lib.hid (L7.out.grown g8.out (by simp))
  clear B7 L7 g8
  go_wp2_with fail
  refine (nil_objects _).mono ?_
  rintro e v9 ⟨rfl, g9⟩
  have B9 := Lib.hid (bl_none B8.out g9.out)
  have L9 := Lib.hid (L8.out.grown g9.out (by simp))
  clear B8 L8 g9
  go_wp2_with fail
  refine (nil_swap a0 a1 a1 _).mono ?_
  rintro e v10 ⟨rfl, g10⟩
  have B10 := Lib.hid (bl_none B9.out g10.out)
  have L10 := Lib.hid (L9.out.grown g10.out (by simp))
  clear B9 L9 g10
  have x0 := L10.out.cell 0
  have x1 := L10.out.cell 1
  have x2 := L10.out.cell 2
  have x3 := L10.out.cell 3
  have x4 := L10.out.cell 4
  have x5 := L10.out.cell 5
  have x6 := L10.out.cell 6
  have x7 := L10.out.cell 7
  have x8 := L10.out.cell 8
  go_wp2_with fail
  refine (nil_all _).mono ?_
  rintro e v11 ⟨rfl, g11⟩
  go_wp2
  go_ret
  exact ⟨by rfl, bl_none B10.out g11.out⟩

theorem own : ownKnob Try.prog.godebug = none := by kernel_rfl
theorem laidOut : laidOutB Try.prog = true := by kernel_rfl

/-! ### THE ROW's STEP, as the guide has it -/
set_option maxRecDepth 100000 in
theorem lifted (os : Os) (started : os.Started) (H : Type) (enc : TypeId × Value → H) :
    ReturnsInHanded {} Try.checked os 6 .any (Rows.cellsNoneSpec.pre6 enc Try.prog Try.f6 Rows.cellsNoneRow.domain false) (Rows.cellsNoneSpec.post enc Try.prog Try.f6 false true false false) := by
  refine returnsInHanded_of_change (C := Try.checked) own started (by kernel_rfl) Try.func6
    (ChangeSpec.witness6 (enc := enc) (C := Try.checked) false ⟨#[], #[.int .i64 0, .int .i64 0, .int .i64 0], []⟩ 8 (by kernel_rfl) (by kernel_rfl) (by kernel_rfl) (by kernel_rfl)) ?_
  intro W base args ds gs before hval0 hW hcnd _
  have hval : ∀ (j : Nat) t v, Try.f6.params[j]? = some t → args[j]? = some v → Value.okWide Try.prog W .any base t v := hval0
  have hW' := hW
  obtain ⟨p, q, hA0, hV, rfl, hfz, hnd⟩ := hW
  have hA : DataW.TrodAll enc Try.prog W 0 (fun _ => true) true Try.f6.params.toList args.toList ds p := hA0
  rw [Try.params6] at hA hval
  obtain ⟨v0, vs0, d0, ds0, p0, q0, hargs, rfl, rfl, h0, r0⟩ := trodAll_cons hA
  obtain ⟨v1, vs1, d1, ds1, p1, q1, rfl, rfl, rfl, h1, r1⟩ := trodAll_cons r0
  obtain ⟨v2, vs2, d2, ds2, p2, q2, rfl, rfl, rfl, h2, r2⟩ := trodAll_cons r1
  obtain ⟨rfl, rfl, rfl⟩ := trodAll_nil r2
  obtain rfl : args = #[v0, v1, v2] := by cases args; simp_all
  obtain ⟨rfl, rfl⟩ := trodVars_none hV
  obtain ⟨a0, rfl, rfl, rfl, w0⟩ := open_int Try.underlying3 (hval 0 3 v0 rfl rfl) h0
  obtain ⟨a1, rfl, rfl, rfl, w1⟩ := open_int Try.underlying3 (hval 1 3 v1 rfl rfl) h1
  obtain ⟨a2, rfl, rfl, rfl, w2⟩ := open_int Try.underlying2 (hval 2 2 v2 rfl rfl) h2
  clear hA0 hval0
  refine (walk a0 a1 a2 W w0 w1 w2).mono fun e W' ⟨he, bel⟩ => ?_
  subst he
  exact ⟨_, rfl, _, _, _, [], _, [], hW', trodAll_mk1 (shut_bool Try.underlying4 _), (trodAll_cons_mk (shut_int Try.underlying3 w0) (trodAll_cons_mk (shut_int Try.underlying3 w1) (trodAll_cons_mk (shut_int Try.underlying2 w2) trodAll_mk0))), rfl, bel.frame _, fun h => by cases h⟩

theorem over : Rows.cellsNoneRow.holds Try.pinned (OpenSpec.ofChange Rows.cellsNoneSpec) :=
  OpenClaim.holds_of_wide 6 Try.f6 rfl rfl rfl rfl rfl rfl rfl ⟨rfl, rfl, rfl, rfl, rfl⟩ rfl rfl rfl rfl rfl (by kernel_rfl) Try.func6 (by kernel_rfl)
    (of_decide_eq_true (by kernel_rfl)) (by unfold Func.isWrapper; first | (rw [if_pos (by decide +kernel)]; kernel_rfl) | (rw [if_neg (by decide +kernel)]; exact ⟨rfl, rfl⟩))
    (fun os started H enc _ => lifted os started H enc)

theorem proved : Rows.CellsNoneSaid := over
#print axioms proved
end Go.Proofs.Yticlmcoegcfanaa.cellsNone
