/-
  LangGets: the operations of any bytes, or the place and the error, are the document's; for any bytes, and any number of objects.
  Conditions: none (of more than 300 bytes the law says nothing by itself).
-/
import Derived.Test.YtjajhkgbhckdeaaRows
import Derived.Test.YtjajhkgbhckdeaaOpen
import Derived.Test.YtjajhkgbhckdeaaAliveL
import Derived.Test.YtjajhkgbhckdeaaGetR
namespace Go.Proofs.Ytjajhkgbhckdeaa.langGets
open Go.ChangeShapes Go.WideShapes Go.ChangeAt Go.RowKit Go.Proofs.Ytjajhkgbhckdeaa.base Go.Proofs.Ytjajhkgbhckdeaa.lg
set_option linter.unusedVariables false

theorem walk_long (a0 : Option Addr) (len0 cap0 : Nat) (objs : Int) (w : World) (h : 300 < len0) :
    Calls Try.prog 5 #[.slice a0 len0 cap0, .int .i64 objs] w fun e w' => e = .returned (.bool true) ∧ Below w.heap.size w w' := by
  have hd : decide ((300 : Int) < (len0 : Int)) = true := by simp; omega
  clear h
  go_enter Try.func5, Try.ntmps5
  go_wp2_with fail
  refine (alive_any _).mono ?_
  rintro e v1 ⟨rfl, g1⟩
  go_wp2
  go_ret
  exact ⟨rfl, gb_below g1.out⟩

theorem walk_short (a0 : Option Addr) (n cap0 : Nat) (bf : Nat → Int) (objs : Int) (w : World) (w0 : IsRow .u8 w a0 n cap0 bf) (h : n ≤ 300) :
    Calls Try.prog 5 #[.slice a0 n cap0, .int .i64 objs] w fun e w' => e = .returned (.bool true) ∧ Below w.heap.size w w' := by
  have V := Lib.hid (IsNums.of_row w0)
  have Hb := Lib.hid (bytes_of w0)
  have hd : decide ((300 : Int) < (n : Int)) = false := by simp; omega
  clear w0
  rcases get_cases bf n objs with ⟨m, hm⟩ | ⟨m, hm⟩ | ⟨m, hm⟩
  · have HM := Lib.hid hm
    have hs := Lib.hid (show m ≤ maxLen by have := hm.1; unfold maxLen; omega)
    clear hm
    go_enter Try.func5, Try.ntmps5; go_wp2_with fail; refine (alive_any _).mono ?_; rintro e v1 ⟨rfl, g1⟩; have Vu := Lib.hid ((V.out.grown (gb_alloc g1.out (.cells #[] 5))).src); go_wp2_with (at_builtin; go_loud (refine appendU8 _ rfl (.tmp 17) (.tmp 18) rfl w.heap.size _ 0 [] rfl (ownsRow_drop (ownsRow_empty v1 _ 1) g1.out.size) a0 n cap0 (u8s bf n) rfl (by simp [u8s]) Vu.out (one_nums _ _ _) (by omega) (by have := g1.out.size; simp; omega) ?_); intro b2 c2 v2 ho hg hv; clear hv); simp only [Nat.zero_add, List.nil_append] at ho; have G2 := Lib.hid (gb_overO (gb_alloc g1.out _) hg (by intro i e; cases e; exact g1.out.size)); have W2 := Lib.hid (IsNums.of_own (k := .u8) ho); obtain ⟨hc1, hc2⟩ := row_cap ho; have HC1 := Lib.hid hc1; have HC2 := Lib.hid hc2; clear ho hg Vu g1 hc1 hc2
    refine (get_A b2 n c2 bf objs _ m W2.out Hb.out HC1.out HC2.out (by omega) HM.out).mono ?_
    rintro e v3 ⟨b3, c3, rfl, R3, g3⟩
    have G3 := Lib.hid (gb_trans G2.out g3.out)
    have N3 := Lib.hid (IsOps.of_own R3.out)
    clear g3 G2 W2 R3
    go_wp2_with fail
    refine (refget_A a0 n cap0 bf objs _ m (V.out.grown G3.out) Hb.out (by omega) HM.out).mono ?_
    rintro e v4 ⟨b4, c4, rfl, R4, g4⟩
    have G4 := Lib.hid (gb_trans G3.out g4.out)
    have N4 := Lib.hid (N3.out.grown g4.out)
    have M4 := Lib.hid (IsOps.of_own R4.out)
    clear g4 G3 N3 R4
    go_wp2_with fail
    refine (same_true b3 b4 m c3 c4 _ _ N4.out M4.out hs.out).mono ?_
    rintro e v5 ⟨rfl, g5⟩
    have G5 := Lib.hid (gb_trans G4.out g5.out)
    clear g5 G4
    go_wp2
    go_ret
    exact ⟨rfl, gb_below G5.out⟩
  · have HM := Lib.hid hm
    clear hm
    go_enter Try.func5, Try.ntmps5; go_wp2_with fail; refine (alive_any _).mono ?_; rintro e v1 ⟨rfl, g1⟩; have Vu := Lib.hid ((V.out.grown (gb_alloc g1.out (.cells #[] 5))).src); go_wp2_with (at_builtin; go_loud (refine appendU8 _ rfl (.tmp 17) (.tmp 18) rfl w.heap.size _ 0 [] rfl (ownsRow_drop (ownsRow_empty v1 _ 1) g1.out.size) a0 n cap0 (u8s bf n) rfl (by simp [u8s]) Vu.out (one_nums _ _ _) (by omega) (by have := g1.out.size; simp; omega) ?_); intro b2 c2 v2 ho hg hv; clear hv); simp only [Nat.zero_add, List.nil_append] at ho; have G2 := Lib.hid (gb_overO (gb_alloc g1.out _) hg (by intro i e; cases e; exact g1.out.size)); have W2 := Lib.hid (IsNums.of_own (k := .u8) ho); obtain ⟨hc1, hc2⟩ := row_cap ho; have HC1 := Lib.hid hc1; have HC2 := Lib.hid hc2; clear ho hg Vu g1 hc1 hc2
    refine (get_B b2 n c2 bf objs _ m W2.out Hb.out HC1.out HC2.out (by omega) HM.out).mono ?_
    rintro e v3 ⟨rfl, g3⟩
    have G3 := Lib.hid (gb_trans G2.out g3.out)
    clear g3 G2 W2
    go_wp2_with fail
    refine (refget_B a0 n cap0 bf objs _ m (V.out.grown G3.out) Hb.out (by omega) HM.out).mono ?_
    rintro e v4 ⟨rfl, g4⟩
    have G4 := Lib.hid (gb_trans G3.out g4.out)
    clear g4 G3
    go_wp2_with fail
    refine (same_true none none 0 0 0 (fun _ _ => 0) _ (.inl rfl) (.inl rfl) (by unfold maxLen; omega)).mono ?_
    rintro e v5 ⟨rfl, g5⟩
    have G5 := Lib.hid (gb_trans G4.out g5.out)
    clear g5 G4
    go_wp2
    go_ret
    exact ⟨rfl, gb_below G5.out⟩
  · have HM := Lib.hid hm
    clear hm
    go_enter Try.func5, Try.ntmps5; go_wp2_with fail; refine (alive_any _).mono ?_; rintro e v1 ⟨rfl, g1⟩; have Vu := Lib.hid ((V.out.grown (gb_alloc g1.out (.cells #[] 5))).src); go_wp2_with (at_builtin; go_loud (refine appendU8 _ rfl (.tmp 17) (.tmp 18) rfl w.heap.size _ 0 [] rfl (ownsRow_drop (ownsRow_empty v1 _ 1) g1.out.size) a0 n cap0 (u8s bf n) rfl (by simp [u8s]) Vu.out (one_nums _ _ _) (by omega) (by have := g1.out.size; simp; omega) ?_); intro b2 c2 v2 ho hg hv; clear hv); simp only [Nat.zero_add, List.nil_append] at ho; have G2 := Lib.hid (gb_overO (gb_alloc g1.out _) hg (by intro i e; cases e; exact g1.out.size)); have W2 := Lib.hid (IsNums.of_own (k := .u8) ho); obtain ⟨hc1, hc2⟩ := row_cap ho; have HC1 := Lib.hid hc1; have HC2 := Lib.hid hc2; clear ho hg Vu g1 hc1 hc2
    refine (get_C b2 n c2 bf objs _ m W2.out Hb.out HC1.out HC2.out (by omega) HM.out).mono ?_
    rintro e v3 ⟨rfl, g3⟩
    have G3 := Lib.hid (gb_trans G2.out g3.out)
    clear g3 G2 W2
    go_wp2_with fail
    refine (refget_C a0 n cap0 bf objs _ m (V.out.grown G3.out) Hb.out (by omega) HM.out).mono ?_
    rintro e v4 ⟨rfl, g4⟩
    have G4 := Lib.hid (gb_trans G3.out g4.out)
    clear g4 G3
    go_wp2_with fail
    refine (same_true none none 0 0 0 (fun _ _ => 0) _ (.inl rfl) (.inl rfl) (by unfold maxLen; omega)).mono ?_
    rintro e v5 ⟨rfl, g5⟩
    have G5 := Lib.hid (gb_trans G4.out g5.out)
    clear g5 G4
    go_wp2
    go_ret
    exact ⟨rfl, gb_below G5.out⟩

theorem walk (a0 : Option Addr) (len0 cap0 : Nat) (z0 : Nat → Int) (a1 : Int) (w : World) (w0 : IsRow .u8 w a0 len0 cap0 z0) (w1 : (Lit.int .i64 a1).wf = true) :
    Calls Try.prog 5 #[.slice a0 len0 cap0, .int .i64 a1] w fun e w' => e = .returned (.bool true) ∧ Below w.heap.size w w' := by
  by_cases h : 300 < len0
  · exact walk_long a0 len0 cap0 a1 w h
  · exact walk_short a0 len0 cap0 z0 a1 w w0 (by omega)

theorem own : ownKnob Try.prog.godebug = none := by kernel_rfl
theorem laidOut : laidOutB Try.prog = true := by kernel_rfl

/-! ### THE ROW's STEP, as the guide has it -/
set_option maxRecDepth 100000 in
theorem lifted (os : Os) (started : os.Started) (H : Type) (enc : TypeId × Value → H) :
    ReturnsInHanded {} Try.checked os 5 .any (Rows.langGetsSpec.pre6 enc Try.prog Try.f5 Rows.langGetsRow.domain false) (Rows.langGetsSpec.post enc Try.prog Try.f5 false true false false) := by
  refine returnsInHanded_of_change (C := Try.checked) own started (by kernel_rfl) Try.func5
    (ChangeSpec.witness6 (enc := enc) (C := Try.checked) false ⟨#[], #[.slice none 0 0, .int .i64 0], []⟩ 8 (by kernel_rfl) (by kernel_rfl) (by kernel_rfl) (by kernel_rfl)) ?_
  intro W base args ds gs before hval0 hW hcnd _
  have hval : ∀ (j : Nat) t v, Try.f5.params[j]? = some t → args[j]? = some v → Value.okWide Try.prog W .any base t v := hval0
  have hW' := hW
  obtain ⟨p, q, hA0, hV, rfl, hfz, hnd⟩ := hW
  have hA : DataW.TrodAll enc Try.prog W 0 (fun _ => true) true Try.f5.params.toList args.toList ds p := hA0
  rw [Try.params5] at hA hval
  obtain ⟨v0, vs0, d0, ds0, p0, q0, hargs, rfl, rfl, h0, r0⟩ := trodAll_cons hA
  obtain ⟨v1, vs1, d1, ds1, p1, q1, rfl, rfl, rfl, h1, r1⟩ := trodAll_cons r0
  obtain ⟨rfl, rfl, rfl⟩ := trodAll_nil r1
  obtain rfl : args = #[v0, v1] := by cases args; simp_all
  obtain ⟨rfl, rfl⟩ := trodVars_none hV
  obtain ⟨a0, len0, cap0, rfl⟩ := okWide_slice Try.underlying38 (hval 0 38 v0 rfl rfl)
  have k0 := h0
  have lt0 : ∀ x ∈ p0, x.block < W.heap.size := by obtain ⟨m, hm⟩ := k0; exact DataW.trod_lt m _ _ _ hm
  obtain ⟨z0, w0⟩ : ∃ z, IsRow .u8 W a0 len0 cap0 z := by
    obtain ⟨fuel, hf⟩ := h0
    exact isRow_of Try.underlying38 Try.underlying5 (by kernel_rfl) hf
  obtain ⟨a1, rfl, rfl, rfl, w1⟩ := open_int Try.underlying3 (hval 1 3 v1 rfl rfl) h1
  clear hA0 hval0
  refine (walk a0 len0 cap0 z0 a1 W w0 w1).mono fun e W' ⟨he, bel⟩ => ?_
  subst he
  exact ⟨_, rfl, _, _, _, [], _, [], hW', trodAll_mk1 (shut_bool Try.underlying4 _), (trodAll_cons_mk (Below.trod laidOut (by kernel_rfl) (of_decide_eq_true (by kernel_rfl)) k0 bel lt0) (trodAll_cons_mk (shut_int Try.underlying3 w1) trodAll_mk0)), rfl, bel.frame _, fun h => by cases h⟩

theorem over : Rows.langGetsRow.holds Try.pinned (OpenSpec.ofChange Rows.langGetsSpec) :=
  OpenClaim.holds_of_wide 5 Try.f5 rfl rfl rfl rfl rfl rfl rfl ⟨rfl, rfl, rfl, rfl, rfl⟩ rfl rfl rfl rfl rfl (by kernel_rfl) Try.func5 (by kernel_rfl)
    (of_decide_eq_true (by kernel_rfl)) (by unfold Func.isWrapper; first | (rw [if_pos (by decide +kernel)]; kernel_rfl) | (rw [if_neg (by decide +kernel)]; exact ⟨rfl, rfl⟩))
    (fun os started H enc _ => lifted os started H enc)

theorem proved : Rows.LangGetsSaid := over
#print axioms proved
end Go.Proofs.Ytjajhkgbhckdeaa.langGets
