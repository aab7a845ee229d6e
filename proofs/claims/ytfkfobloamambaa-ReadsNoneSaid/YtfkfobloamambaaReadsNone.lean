/-
  ReadsNone: no set has nothing: what is added is refused, what is put is nothing, nothing is there, for any object.
  Conditions: none.
-/
import Derived.Test.YtfkfobloamambaaRows
import Derived.Test.YtfkfobloamambaaAlive12
namespace Go.Proofs.Ytfkfobloamambaa.readsNone
open Go.ChangeShapes Go.WideShapes Go.ChangeAt Go.RowKit Go.Proofs.Ytfkfobloamambaa.base Go.Proofs.Ytfkfobloamambaa.rd
set_option linter.unusedVariables false

theorem walk (o : Int) (w : World) (w0 : (Lit.int .i64 o).wf = true) :
    Calls Try.prog 5 #[.int .i64 o] w fun e w' => e = .returned (.bool true) ∧ Below w.heap.size w w' := by
  have P := Lib.hid (fun u => show Calls Try.prog 13 #[.pointer none, .agg #[.int .i64 o, .int .i64 0, .int .i64 0, .int .i64 0, .bool false]] u fun e w' => e = .returned (.tuple #[]) ∧ Hid (u.grownBy w' none) from put_nil ⟨o, 0, 0, 0, false⟩ u)
  have A := Lib.hid (fun u => show Calls Try.prog 10 #[.pointer none, .agg #[.int .i64 o, .int .i64 0, .int .i64 0]] u fun e w' => e = .returned (.int .i64 6) ∧ Hid (u.grownBy w' none) from add_nil ⟨o, 0, 0⟩ u)
  clear w0
  go_enter Try.func5, Try.ntmps5
  go_wp2_with fail
  refine (alive_any _).mono ?_
  rintro e v1 ⟨rfl, g1⟩
  have M := Lib.hid g1.out
  clear g1
  go_wp2_with fail
  refine (P.out _).mono ?_
  rintro e v2 ⟨rfl, g⟩
  have M2 := Lib.hid (gb_trans M.out g.out)
  clear g M
  go_wp2_with fail
  refine (hasR_nil o _).mono ?_
  rintro e v3 ⟨rfl, g⟩
  have M3 := Lib.hid (gb_alloc (gb_trans M2.out g.out) (.cells #[.int .i64 0, .int .i64 0, .int .i64 0] 40))
  clear g M2
  go_wp2_with fail
  refine (hasO_nil o _).mono ?_
  rintro e v4 ⟨rfl, g⟩
  have M4 := Lib.hid (gb_alloc (gb_trans M3.out g.out) (.cells #[.int .i64 0, .int .i64 0, .int .i64 0, .int .i64 0, .bool false] 44))
  clear g M3
  go_wp2_with fail
  refine (A.out _).mono ?_
  rintro e v5 ⟨rfl, g⟩
  have M5 := Lib.hid (gb_trans M4.out g.out)
  clear g M4
  go_wp2_with fail
  refine (drop_nil o _).mono ?_
  rintro e v6 ⟨rfl, rfl⟩
  go_wp2_with fail
  refine (allR_nil _).mono ?_
  rintro e v6 ⟨rfl, rfl⟩
  go_wp2_with fail
  refine (allO_nil _).mono ?_
  rintro e v6 ⟨rfl, rfl⟩
  go_wp2_with fail
  refine (unc_nil _).mono ?_
  rintro e v6 ⟨rfl, rfl⟩
  go_wp2
  go_ret
  exact ⟨rfl, gb_below M5.out⟩

theorem own : ownKnob Try.prog.godebug = none := by kernel_rfl
theorem laidOut : laidOutB Try.prog = true := by kernel_rfl

/-! ### THE ROW's STEP, as the guide has it -/
set_option maxRecDepth 100000 in
theorem lifted (os : Os) (started : os.Started) (H : Type) (enc : TypeId × Value → H) :
    ReturnsInHanded {} Try.checked os 5 .any (Rows.readsNoneSpec.pre6 enc Try.prog Try.f5 Rows.readsNoneRow.domain false) (Rows.readsNoneSpec.post enc Try.prog Try.f5 false true false false) := by
  refine returnsInHanded_of_change (C := Try.checked) own started (by kernel_rfl) Try.func5
    (ChangeSpec.witness6 (enc := enc) (C := Try.checked) false ⟨#[], #[.int .i64 0], []⟩ 8 (by kernel_rfl) (by kernel_rfl) (by kernel_rfl) (by kernel_rfl)) ?_
  intro W base args ds gs before hval0 hW hcnd _
  have hval : ∀ (j : Nat) t v, Try.f5.params[j]? = some t → args[j]? = some v → Value.okWide Try.prog W .any base t v := hval0
  have hW' := hW
  obtain ⟨p, q, hA0, hV, rfl, hfz, hnd⟩ := hW
  have hA : DataW.TrodAll enc Try.prog W 0 (fun _ => true) true Try.f5.params.toList args.toList ds p := hA0
  rw [Try.params5] at hA hval
  obtain ⟨v0, vs0, d0, ds0, p0, q0, hargs, rfl, rfl, h0, r0⟩ := trodAll_cons hA
  obtain ⟨rfl, rfl, rfl⟩ := trodAll_nil r0
  obtain rfl : args = #[v0] := by cases args; simp_all
  obtain ⟨rfl, rfl⟩ := trodVars_none hV
  obtain ⟨a0, rfl, rfl, rfl, w0⟩ := open_int Try.underlying3 (hval 0 3 v0 rfl rfl) h0
  clear hA0 hval0
  refine (walk a0 W w0).mono fun e W' ⟨he, bel⟩ => ?_
  subst he
  exact ⟨_, rfl, _, _, _, [], _, [], hW', trodAll_mk1 (shut_bool Try.underlying4 _), (trodAll_cons_mk (shut_int Try.underlying3 w0) trodAll_mk0), rfl, bel.frame _, fun h => by cases h⟩

theorem over : Rows.readsNoneRow.holds Try.pinned (OpenSpec.ofChange Rows.readsNoneSpec) :=
  OpenClaim.holds_of_wide 5 Try.f5 rfl rfl rfl rfl rfl rfl rfl ⟨rfl, rfl, rfl, rfl, rfl⟩ rfl rfl rfl rfl rfl (by kernel_rfl) Try.func5 (by kernel_rfl)
    (of_decide_eq_true (by kernel_rfl)) (by unfold Func.isWrapper; first | (rw [if_pos (by decide +kernel)]; kernel_rfl) | (rw [if_neg (by decide +kernel)]; exact ⟨rfl, rfl⟩))
    (fun os started H enc _ => lifted os started H enc)

theorem proved : Rows.ReadsNoneSaid := over
#print axioms proved
end Go.Proofs.Ytfkfobloamambaa.readsNone
