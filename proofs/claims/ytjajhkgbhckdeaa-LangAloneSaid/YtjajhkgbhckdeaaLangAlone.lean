/-
  LangAlone: the values behind any transaction that is done alone, or the error, are the document's; for any list of operations, and any values.
  Conditions: none (of a list of more than 50 operations, or of more than 50 values, the law says nothing by itself).
-/
import Derived.Test.YtjajhkgbhckdeaaRows
import Derived.Test.YtjajhkgbhckdeaaOpen
import Derived.Test.YtjajhkgbhckdeaaAliveL
namespace Go.Proofs.Ytjajhkgbhckdeaa.langAlone
open Go.ChangeShapes Go.WideShapes Go.ChangeAt Go.RowKit Go.Proofs.Ytjajhkgbhckdeaa.base Go.Proofs.Ytjajhkgbhckdeaa.lg
set_option linter.unusedVariables false

theorem walk_long (a0 : Option Addr) (len0 cap0 : Nat) (a1 : Option Addr) (len1 cap1 : Nat) (w : World) (h : 50 < len0 ∨ 50 < len1) :
    Calls Try.prog 4 #[.slice a0 len0 cap0, .slice a1 len1 cap1] w fun e w' => e = .returned (.bool true) ∧ Below w.heap.size w w' := by
  by_cases h0 : 50 < len0
  · have hd : decide ((50 : Int) < (len0 : Int)) = true := by simp; omega
    clear h
    go_enter Try.func4, Try.ntmps4
    go_wp2_with fail
    refine (alive_any _).mono ?_
    rintro e v1 ⟨rfl, g1⟩
    go_wp2
    go_ret
    exact ⟨rfl, gb_below g1.out⟩
  · have hd : decide ((50 : Int) < (len0 : Int)) = false := by simp; omega
    have hd1 : decide ((50 : Int) < (len1 : Int)) = true := by simp; omega
    clear h
    go_enter Try.func4, Try.ntmps4
    go_wp2_with fail
    refine (alive_any _).mono ?_
    rintro e v1 ⟨rfl, g1⟩
    go_wp2
    go_ret
    exact ⟨rfl, gb_below g1.out⟩

set_option maxHeartbeats 1000000 in
theorem walk_short (a0 : Option Addr) (len0 cap0 : Nat) (z0 : Nat → Nat → Int) (a1 : Option Addr) (len1 cap1 : Nat) (z1 : Nat → Int) (w : World) (w0 : IsInts 3 w a0 len0 cap0 z0) (w1 : IsRow .i64 w a1 len1 cap1 z1) (h0 : len0 ≤ 50) (h1 : len1 ≤ 50) :
    Calls Try.prog 4 #[.slice a0 len0 cap0, .slice a1 len1 cap1] w fun e w' => e = .returned (.bool true) ∧ Below w.heap.size w w' := by
  have Z := Lib.hid (IsOps.of_ints w0)
  have V := Lib.hid (IsNums.of_row w1)
  have hd : decide ((50 : Int) < (len0 : Int)) = false := by simp; omega
  have hd1 : decide ((50 : Int) < (len1 : Int)) = false := by simp; omega
  clear w0 w1
  cases hr : rightB z0 len0 len1 with
  | false =>
    have HR := Lib.hid hr
    clear hr
    go_enter Try.func4, Try.ntmps4
    go_wp2_with fail
    refine (alive_any _).mono ?_
    rintro e v1 ⟨rfl, g1⟩
    have Vu := Lib.hid ((V.out.grown (gb_alloc g1.out (.cells #[] 2))).src)
    go_wp2_with (at_builtin; go_loud (refine append64 _ rfl (.tmp 18) (.tmp 19) rfl w.heap.size _ 0 [] rfl (ownsRow_drop (ownsRow_empty v1 _ 1) g1.out.size) a1 len1 cap1 (vals z1 len1) rfl (by simp [vals]) Vu.out (one_nums _ _ _) (by omega) (by have := g1.out.size; simp; omega) ?_); intro b2 c2 v2 ho hg hv; clear hv)
    simp only [Nat.zero_add, List.nil_append] at ho
    have G2 := Lib.hid (gb_overO (gb_alloc g1.out _) hg (by intro i e; cases e; exact g1.out.size))
    have W2 := Lib.hid (IsNums.of_own (k := .i64) ho)
    clear ho hg Vu g1
    refine (alone_bad a0 len0 cap0 z0 a1 len1 cap1 _ (Z.out.grown G2.out) HR.out).mono ?_
    rintro e v3 ⟨rfl, g3⟩
    have G3 := Lib.hid (gb_trans G2.out g3.out)
    have W3 := Lib.hid (W2.out.grown g3.out)
    clear g3 G2 W2
    go_wp2_with fail
    refine (vals_true a1 b2 len1 cap1 c2 z1 _ (V.out.grown G3.out) W3.out (by omega)).mono ?_
    rintro e v4 ⟨rfl, g4⟩
    have G4 := Lib.hid (gb_trans G3.out g4.out)
    clear g4 G3 W3
    have HRR := Lib.hid (HR.out ▸ refright_any a0 len0 cap0 z0 len1 v4 (Z.out.grown G4.out) (by unfold maxLen; omega))
    go_wp2_with fail
    refine HRR.out.mono ?_
    rintro e v5 ⟨rfl, g5⟩
    have G5 := Lib.hid (gb_trans G4.out g5.out)
    clear g5 G4 HRR
    go_wp2
    go_ret
    exact ⟨rfl, gb_below G5.out⟩
  | true =>
    have HR := Lib.hid hr
    have hok : okN z0 len1 len0 = true := by simp only [rightB, Bool.and_eq_true] at hr; exact hr.2
    have HK := Lib.hid hok
    clear hr hok
    go_enter Try.func4, Try.ntmps4
    go_wp2_with fail
    refine (alive_any _).mono ?_
    rintro e v1 ⟨rfl, g1⟩
    have Vu := Lib.hid ((V.out.grown (gb_alloc g1.out (.cells #[] 2))).src)
    go_wp2_with (at_builtin; go_loud (refine append64 _ rfl (.tmp 18) (.tmp 19) rfl w.heap.size _ 0 [] rfl (ownsRow_drop (ownsRow_empty v1 _ 1) g1.out.size) a1 len1 cap1 (vals z1 len1) rfl (by simp [vals]) Vu.out (one_nums _ _ _) (by omega) (by have := g1.out.size; simp; omega) ?_); intro b2 c2 v2 ho hg hv; clear hv)
    simp only [Nat.zero_add, List.nil_append] at ho
    have G2 := Lib.hid (gb_overO (gb_alloc g1.out _) hg (by intro i e; cases e; exact g1.out.size))
    have W2 := Lib.hid (IsNums.of_own (k := .i64) ho)
    clear ho hg Vu g1
    refine (alone_any a0 len0 cap0 z0 a1 len1 cap1 z1 _ (Z.out.grown G2.out) (V.out.grown G2.out) HR.out (by omega)).mono ?_
    rintro e v3 ⟨b3, c3, rfl, R3, g3⟩
    have G3 := Lib.hid (gb_trans G2.out g3.out)
    have W3 := Lib.hid (W2.out.grown g3.out)
    have N3 := Lib.hid (IsNums.of_own (k := .i64) R3.out)
    clear g3 G2 W2 R3
    go_wp2_with fail
    refine (vals_true a1 b2 len1 cap1 c2 z1 _ (V.out.grown G3.out) W3.out (by omega)).mono ?_
    rintro e v4 ⟨rfl, g4⟩
    have G4 := Lib.hid (gb_trans G3.out g4.out)
    have N4 := Lib.hid (N3.out.grown g4.out)
    clear g4 G3 W3 N3
    have HRR := Lib.hid (HR.out ▸ refright_any a0 len0 cap0 z0 len1 v4 (Z.out.grown G4.out) (by unfold maxLen; omega))
    go_wp2_with fail
    refine HRR.out.mono ?_
    rintro e v5 ⟨rfl, g5⟩
    have G5 := Lib.hid (gb_trans G4.out g5.out)
    have N5 := Lib.hid (N4.out.grown g5.out)
    clear g5 G4 HRR N4
    go_wp2_with fail
    refine (refalone_any a0 len0 cap0 z0 a1 len1 cap1 z1 _ (Z.out.grown G5.out) (V.out.grown G5.out) HK.out (by omega) (by omega)).mono ?_
    rintro e v6 ⟨b6, c6, rfl, R6, g6⟩
    have G6 := Lib.hid (gb_trans G5.out g6.out)
    have N6 := Lib.hid (N5.out.grown g6.out)
    have M6 := Lib.hid (IsNums.of_own (k := .i64) R6.out)
    clear g6 R6 G5 N5
    go_wp2_with fail
    refine (vals_true b3 b6 len1 c3 c6 _ _ N6.out M6.out (by omega)).mono ?_
    rintro e v7 ⟨rfl, g7⟩
    have G7 := Lib.hid (gb_trans G6.out g7.out)
    clear g7 G6
    go_wp2
    go_ret
    exact ⟨rfl, gb_below G7.out⟩

theorem walk (a0 : Option Addr) (len0 cap0 : Nat) (z0 : Nat → Nat → Int) (a1 : Option Addr) (len1 cap1 : Nat) (z1 : Nat → Int) (w : World) (w0 : IsInts 3 w a0 len0 cap0 z0) (w1 : IsRow .i64 w a1 len1 cap1 z1) :
    Calls Try.prog 4 #[.slice a0 len0 cap0, .slice a1 len1 cap1] w fun e w' => e = .returned (.bool true) ∧ Below w.heap.size w w' := by
  by_cases h : 50 < len0 ∨ 50 < len1
  · exact walk_long a0 len0 cap0 a1 len1 cap1 w h
  · exact walk_short a0 len0 cap0 z0 a1 len1 cap1 z1 w w0 w1 (by omega) (by omega)

theorem own : ownKnob Try.prog.godebug = none := by kernel_rfl
theorem laidOut : laidOutB Try.prog = true := by kernel_rfl

/-! ### THE ROW's STEP, as the guide has it -/
set_option maxRecDepth 100000 in
theorem lifted (os : Os) (started : os.Started) (H : Type) (enc : TypeId × Value → H) :
    ReturnsInHanded {} Try.checked os 4 .any (Rows.langAloneSpec.pre6 enc Try.prog Try.f4 Rows.langAloneRow.domain false) (Rows.langAloneSpec.post enc Try.prog Try.f4 false true false false) := by
  refine returnsInHanded_of_change (C := Try.checked) own started (by kernel_rfl) Try.func4
    (ChangeSpec.witness6 (enc := enc) (C := Try.checked) false ⟨#[], #[.slice none 0 0, .slice none 0 0], []⟩ 8 (by kernel_rfl) (by kernel_rfl) (by kernel_rfl) (by kernel_rfl)) ?_
  intro W base args ds gs before hval0 hW hcnd _
  have hval : ∀ (j : Nat) t v, Try.f4.params[j]? = some t → args[j]? = some v → Value.okWide Try.prog W .any base t v := hval0
  have hW' := hW
  obtain ⟨p, q, hA0, hV, rfl, hfz, hnd⟩ := hW
  have hA : DataW.TrodAll enc Try.prog W 0 (fun _ => true) true Try.f4.params.toList args.toList ds p := hA0
  rw [Try.params4] at hA hval
  obtain ⟨v0, vs0, d0, ds0, p0, q0, hargs, rfl, rfl, h0, r0⟩ := trodAll_cons hA
  obtain ⟨v1, vs1, d1, ds1, p1, q1, rfl, rfl, rfl, h1, r1⟩ := trodAll_cons r0
  obtain ⟨rfl, rfl, rfl⟩ := trodAll_nil r1
  obtain rfl : args = #[v0, v1] := by cases args; simp_all
  obtain ⟨rfl, rfl⟩ := trodVars_none hV
  obtain ⟨a0, len0, cap0, rfl⟩ := okWide_slice Try.underlying22 (hval 0 22 v0 rfl rfl)
  have k0 := h0
  have lt0 : ∀ x ∈ p0, x.block < W.heap.size := by obtain ⟨m, hm⟩ := k0; exact DataW.trod_lt m _ _ _ hm
  obtain ⟨z0, w0⟩ : ∃ z, IsInts 3 W a0 len0 cap0 z := by
    obtain ⟨fuel, hf⟩ := h0
    exact isMixed_of Try.underlying22 Try.underlying24 Try.underlying3 Try.underlying2 (by kernel_rfl) (by kernel_rfl) (by kernel_rfl) (by decide) (by decide) hf
  obtain ⟨a1, len1, cap1, rfl⟩ := okWide_slice Try.underlying31 (hval 1 31 v1 rfl rfl)
  have k1 := h1
  have lt1 : ∀ x ∈ p1, x.block < W.heap.size := by obtain ⟨m, hm⟩ := k1; exact DataW.trod_lt m _ _ _ hm
  obtain ⟨z1, w1⟩ : ∃ z, IsRow .i64 W a1 len1 cap1 z := by
    obtain ⟨fuel, hf⟩ := h1
    exact isRow_of Try.underlying31 Try.underlying2 (by kernel_rfl) hf
  clear hA0 hval0
  refine (walk a0 len0 cap0 z0 a1 len1 cap1 z1 W w0 w1).mono fun e W' ⟨he, bel⟩ => ?_
  subst he
  exact ⟨_, rfl, _, _, _, [], _, [], hW', trodAll_mk1 (shut_bool Try.underlying4 _), (trodAll_cons_mk (Below.trod laidOut (by kernel_rfl) (of_decide_eq_true (by kernel_rfl)) k0 bel lt0) (trodAll_cons_mk (Below.trod laidOut (by kernel_rfl) (of_decide_eq_true (by kernel_rfl)) k1 bel lt1) trodAll_mk0)), rfl, bel.frame _, fun h => by cases h⟩

theorem over : Rows.langAloneRow.holds Try.pinned (OpenSpec.ofChange Rows.langAloneSpec) :=
  OpenClaim.holds_of_wide 4 Try.f4 rfl rfl rfl rfl rfl rfl rfl ⟨rfl, rfl, rfl, rfl, rfl⟩ rfl rfl rfl rfl rfl (by kernel_rfl) Try.func4 (by kernel_rfl)
    (of_decide_eq_true (by kernel_rfl)) (by unfold Func.isWrapper; first | (rw [if_pos (by decide +kernel)]; kernel_rfl) | (rw [if_neg (by decide +kernel)]; exact ⟨rfl, rfl⟩))
    (fun os started H enc _ => lifted os started H enc)

theorem proved : Rows.LangAloneSaid := over
#print axioms proved
end Go.Proofs.Ytjajhkgbhckdeaa.langAlone
