/-
  WordCounts: a word's accesses are its loads and its swaps, one by one, those that fail, too, and its number is the last one that a swap gave it, for any first number and any order of loads and swaps of numbers from -128 to 127.
  Conditions: none (of an order of more than 200 the law says nothing by itself).
-/
import Derived.Test.YtjnemfjfehhfpaaRows
import Derived.Test.YtjnemfjfehhfpaaOpen
import Derived.Test.YtjnemfjfehhfpaaWord
namespace Go.Proofs.Ytjnemfjfehhfpaa.wordCounts
open Go.ChangeShapes Go.WideShapes Go.ChangeAt Go.RowKit Go.Proofs.Ytjnemfjfehhfpaa.base Go.Proofs.Ytjnemfjfehhfpaa.wd
set_option linter.unusedVariables false

/-- At the head of a round: what the word has, and that it was accessed k times. -/
def Rel (w : World) (b : Nat) (len : Nat) (has i : Value) (wr : World) : Prop :=
  ∃ (k : Nat) (m : Int), k ≤ len ∧ i = .int .i64 k ∧ has = .int .i64 m ∧ Word wr b m k ∧ Below w.heap.size w wr

theorem walk_long (a0 : Int) (a1 a2 : Option Addr) (len1 cap1 len2 cap2 : Nat) (w : World) (h : 200 < (len1 : Int) ∨ 200 < (len2 : Int)) :
    Calls Try.prog 7 #[.int .i64 a0, .slice a1 len1 cap1, .slice a2 len2 cap2] w fun e w' => e = .returned (.bool true) ∧ Below w.heap.size w w' := by
  by_cases h1 : 200 < (len1 : Int)
  · clear h
    go_enter Try.func7, Try.ntmps7
    go_wp2_with fail
    refine (alive_any _).mono ?_
    rintro e v1 ⟨rfl, g1⟩
    go_wp2
    go_ret
    exact ⟨rfl, gb_below g1.out⟩
  · have h2 : 200 < (len2 : Int) := by omega
    clear h
    go_enter Try.func7, Try.ntmps7
    go_wp2_with fail
    refine (alive_any _).mono ?_
    rintro e v1 ⟨rfl, g1⟩
    go_wp2
    go_ret
    exact ⟨rfl, gb_below g1.out⟩

set_option maxHeartbeats 1000000 in
theorem walk_short (a0 : Int) (a1 a2 : Option Addr) (len1 cap1 len2 cap2 : Nat) (z1 : Nat → Bool) (z2 : Nat → Int) (w : World) (w1 : IsBools w a1 len1 cap1 z1) (w2 : IsRow .i8 w a2 len2 cap2 z2) (h1 : ¬ 200 < (len1 : Int)) (h2 : ¬ 200 < (len2 : Int)) :
    Calls Try.prog 7 #[.int .i64 a0, .slice a1 len1 cap1, .slice a2 len2 cap2] w fun e w' => e = .returned (.bool true) ∧ Below w.heap.size w w' := by
  have W1 := Lib.hid w1
  have W2 := Lib.hid w2
  clear w1 w2
  go_enter Try.func7, Try.ntmps7
  go_wp2_with fail
  refine (alive_any _).mono ?_
  rintro e v1 ⟨rfl, g1⟩
  go_wp2_with fail
  refine (of_made _ _).mono ?_
  rintro e v2 ⟨b, rfl, hb, R2, g2⟩
  have B2 := Lib.hid (bl_none (gb_below g1.out) g2.out)
  have hbw : Hid (w.heap.size ≤ b) := Nat.le_trans g1.out.size hb
  clear g2 g1 hb
  go_wp2_with fail
  go_loopw [8, 9] (fun has i wr => Rel w b len1 has i wr) (fun _ i _ => (len1 - intOf i).toNat)
  case atStart => exact ⟨0, a0, by omega, rfl, rfl, R2.out, B2.out⟩
  case round =>
    obtain ⟨k, m, hk, rfl, rfl, R0, B0⟩ := hrel
    have R := Lib.hid R0
    have B := Lib.hid B0
    clear R0 B0
    by_cases hlt : k < len1
    · obtain ⟨_, _, h0 | ⟨b1, off1, rfl, hb1, hz⟩⟩ := W1.out
      · exfalso; omega
      have hcell := (B.out.cell (p := ⟨b1, off1 + k, none⟩) hb1).trans (hz k hlt)
      clear hz hb1
      have hlt' : (k : Int) < (len1 : Int) := by omega
      by_cases ht : z1 k = true
      · rw [ht] at hcell
        clear ht
        go_wp2_with fail
        refine (load_any b m k _ R.out (by omega) (by omega)).mono ?_
        rintro e v3 ⟨rfl, R3, g3⟩
        have B3 := Lib.hid (bl_own B.out g3.out hbw.out)
        go_wp2_with fail
        refine (accesses_any b m (k + 1) _ R3.out).mono ?_
        rintro e v4 ⟨rfl, rfl⟩
        go_wp2
        go_roundw
        case rel => exact ⟨k + 1, _, by omega, by go_num, rfl, R3.out, B3.out⟩
        case measure => simp [intOf]; omega
      · rw [show z1 k = false by simpa using ht] at hcell
        clear ht
        by_cases hn : len2 = 0
        · have hn' : (len2 : Int) ≤ 0 := by omega
          clear hn
          go_wp2_with fail
          refine (load_any b m k _ R.out (by omega) (by omega)).mono ?_
          rintro e v3 ⟨rfl, R3, g3⟩
          have B3 := Lib.hid (bl_own B.out g3.out hbw.out)
          go_wp2_with fail
          refine (accesses_any b m (k + 1) _ R3.out).mono ?_
          rintro e v4 ⟨rfl, rfl⟩
          go_wp2
          go_roundw
          case rel => exact ⟨k + 1, _, by omega, by go_num, rfl, R3.out, B3.out⟩
          case measure => simp [intOf]; omega
        · obtain ⟨_, _, h0 | ⟨b2, off2, rfl, hb2, hy⟩⟩ := W2.out
          · exfalso; omega
          have hl : k % len2 < len2 := Nat.mod_lt _ (by omega)
          have hcell2 := (B.out.cell (p := ⟨b2, off2 + k % len2, none⟩) hb2).trans (hy _ hl).1
          obtain ⟨zl, zu⟩ := bounds_i8 (hy _ hl).2
          clear hy hb2
          generalize z2 (k % len2) = t at *
          have hp : 1 ≤ (len2 : Int) := by omega
          by_cases hmt : m = t
          · obtain rfl : t = m := hmt.symm
            go_wp2_with fail
            all_goals
              refine (swap_hit b t t k _ R.out (by omega) (by omega)).mono ?_
              rintro e v3 ⟨rfl, R3, g3⟩
              have B3 := Lib.hid (bl_own B.out g3.out hbw.out)
              go_wp2_with fail
              refine (accesses_any b _ (k + 1) _ R3.out).mono ?_
              rintro e v4 ⟨rfl, rfl⟩
              go_wp2
              go_roundw
              case rel => exact ⟨k + 1, _, by omega, by go_num, rfl, R3.out, B3.out⟩
              case measure => simp [intOf]; omega
          · have e1 : (m == t) = false := by simpa using hmt
            have e2 : (t == m) = false := by simpa using fun h => hmt h.symm
            clear hmt
            go_wp2_with fail
            · refine (swap_miss b m t t k _ R.out (by omega) (by omega) e1).mono ?_
              rintro e v3 ⟨rfl, R3, g3⟩
              have B3 := Lib.hid (bl_own B.out g3.out hbw.out)
              go_wp2_with fail
              refine (accesses_any b _ (k + 1) _ R3.out).mono ?_
              rintro e v4 ⟨rfl, rfl⟩
              go_wp2
              go_roundw
              case rel => exact ⟨k + 1, _, by omega, by go_num, rfl, R3.out, B3.out⟩
              case measure => simp [intOf]; omega
            · refine (swap_hit b m t k _ R.out (by omega) (by omega)).mono ?_
              rintro e v3 ⟨rfl, R3, g3⟩
              have B3 := Lib.hid (bl_own B.out g3.out hbw.out)
              go_wp2_with fail
              refine (accesses_any b _ (k + 1) _ R3.out).mono ?_
              rintro e v4 ⟨rfl, rfl⟩
              go_wp2
              go_roundw
              case rel => exact ⟨k + 1, _, by omega, by go_num, rfl, R3.out, B3.out⟩
              case measure => simp [intOf]; omega
    · go_wp2
      go_ret
      exact ⟨rfl, B.out⟩

theorem walk (a0 : Int) (a1 : Option Addr) (len1 cap1 : Nat) (z1 : Nat → Bool) (a2 : Option Addr) (len2 cap2 : Nat) (z2 : Nat → Int) (w : World) (w0 : (Lit.int .i64 a0).wf = true) (w1 : IsBools w a1 len1 cap1 z1) (w2 : IsRow .i8 w a2 len2 cap2 z2) :
    Calls Try.prog 7 #[.int .i64 a0, .slice a1 len1 cap1, .slice a2 len2 cap2] w fun e w' => e = .returned (.bool true) ∧ Below w.heap.size w w' := by
  by_cases h : 200 < (len1 : Int) ∨ 200 < (len2 : Int)
  · exact walk_long a0 a1 a2 len1 cap1 len2 cap2 w h
  · exact walk_short a0 a1 a2 len1 cap1 len2 cap2 z1 z2 w w1 w2 (by omega) (by omega)

theorem own : ownKnob Try.prog.godebug = none := by kernel_rfl
theorem laidOut : laidOutB Try.prog = true := by kernel_rfl

/-! ### THE ROW's STEP, as the guide has it -/
set_option maxRecDepth 100000 in
theorem lifted (os : Os) (started : os.Started) (H : Type) (enc : TypeId × Value → H) :
    ReturnsInHanded {} Try.checked os 7 .any (Rows.wordCountsSpec.pre6 enc Try.prog Try.f7 Rows.wordCountsRow.domain false) (Rows.wordCountsSpec.post enc Try.prog Try.f7 false true false false) := by
  refine returnsInHanded_of_change (C := Try.checked) own started (by kernel_rfl) Try.func7
    (ChangeSpec.witness6 (enc := enc) (C := Try.checked) false ⟨#[], #[.int .i64 0, .slice none 0 0, .slice none 0 0], []⟩ 8 (by kernel_rfl) (by kernel_rfl) (by kernel_rfl) (by kernel_rfl)) ?_
  intro W base args ds gs before hval0 hW hcnd _
  have hval : ∀ (j : Nat) t v, Try.f7.params[j]? = some t → args[j]? = some v → Value.okWide Try.prog W .any base t v := hval0
  have hW' := hW
  obtain ⟨p, q, hA0, hV, rfl, hfz, hnd⟩ := hW
  have hA : DataW.TrodAll enc Try.prog W 0 (fun _ => true) true Try.f7.params.toList args.toList ds p := hA0
  rw [Try.params7] at hA hval
  obtain ⟨v0, vs0, d0, ds0, p0, q0, hargs, rfl, rfl, h0, r0⟩ := trodAll_cons hA
  obtain ⟨v1, vs1, d1, ds1, p1, q1, rfl, rfl, rfl, h1, r1⟩ := trodAll_cons r0
  obtain ⟨v2, vs2, d2, ds2, p2, q2, rfl, rfl, rfl, h2, r2⟩ := trodAll_cons r1
  obtain ⟨rfl, rfl, rfl⟩ := trodAll_nil r2
  obtain rfl : args = #[v0, v1, v2] := by cases args; simp_all
  obtain ⟨rfl, rfl⟩ := trodVars_none hV
  obtain ⟨a0, rfl, rfl, rfl, w0⟩ := open_int Try.underlying3 (hval 0 3 v0 rfl rfl) h0
  obtain ⟨a1, len1, cap1, rfl⟩ := okWide_slice Try.underlying44 (hval 1 44 v1 rfl rfl)
  have k1 := h1
  have lt1 : ∀ x ∈ p1, x.block < W.heap.size := by obtain ⟨m, hm⟩ := k1; exact DataW.trod_lt m _ _ _ hm
  obtain ⟨z1, w1⟩ : ∃ z, IsBools W a1 len1 cap1 z := by
    obtain ⟨fuel, hf⟩ := h1
    exact isBools_of Try.underlying44 Try.underlying4 (by kernel_rfl) hf
  obtain ⟨a2, len2, cap2, rfl⟩ := okWide_slice Try.underlying45 (hval 2 45 v2 rfl rfl)
  have k2 := h2
  have lt2 : ∀ x ∈ p2, x.block < W.heap.size := by obtain ⟨m, hm⟩ := k2; exact DataW.trod_lt m _ _ _ hm
  obtain ⟨z2, w2⟩ : ∃ z, IsRow .i8 W a2 len2 cap2 z := by
    obtain ⟨fuel, hf⟩ := h2
    exact isRow_of Try.underlying45 Try.underlying46 (by kernel_rfl) hf
  clear hA0 hval0
  refine (walk a0 a1 len1 cap1 z1 a2 len2 cap2 z2 W w0 w1 w2).mono fun e W' ⟨he, bel⟩ => ?_
  subst he
  exact ⟨_, rfl, _, _, _, [], _, [], hW', trodAll_mk1 (shut_bool Try.underlying4 _), (trodAll_cons_mk (shut_int Try.underlying3 w0) (trodAll_cons_mk (Below.trod laidOut (by kernel_rfl) (of_decide_eq_true (by kernel_rfl)) k1 bel lt1) (trodAll_cons_mk (Below.trod laidOut (by kernel_rfl) (of_decide_eq_true (by kernel_rfl)) k2 bel lt2) trodAll_mk0))), rfl, bel.frame _, fun h => by cases h⟩

theorem over : Rows.wordCountsRow.holds Try.pinned (OpenSpec.ofChange Rows.wordCountsSpec) :=
  OpenClaim.holds_of_wide 7 Try.f7 rfl rfl rfl rfl rfl rfl rfl ⟨rfl, rfl, rfl, rfl, rfl⟩ rfl rfl rfl rfl rfl (by kernel_rfl) Try.func7 (by kernel_rfl)
    (of_decide_eq_true (by kernel_rfl)) (by unfold Func.isWrapper; first | (rw [if_pos (by decide +kernel)]; kernel_rfl) | (rw [if_neg (by decide +kernel)]; exact ⟨rfl, rfl⟩))
    (fun os started H enc _ => lifted os started H enc)

theorem proved : Rows.WordCountsSaid := over
#print axioms proved
end Go.Proofs.Ytjnemfjfehhfpaa.wordCounts
