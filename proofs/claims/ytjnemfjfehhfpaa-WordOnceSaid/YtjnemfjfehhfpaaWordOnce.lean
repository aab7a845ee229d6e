/-
  WordOnce: of swaps that all have one old number, and another new one, just the first one is true, and none if the word had another number, and each counts as an access; for any number that a word has, any old number and any list of new ones.
  Conditions: none (of a list of more than 200 the law says nothing by itself).
-/
import Derived.Test.YtjnemfjfehhfpaaRows
import Derived.Test.YtjnemfjfehhfpaaOpen
import Derived.Test.YtjnemfjfehhfpaaWord
namespace Go.Proofs.Ytjnemfjfehhfpaa.wordOnce
open Go.ChangeShapes Go.WideShapes Go.ChangeAt Go.RowKit Go.Proofs.Ytjnemfjfehhfpaa.base Go.Proofs.Ytjnemfjfehhfpaa.wd
set_option linter.unusedVariables false

/-- At the head of a round, where the word had the old number: k swaps were made, the first one of which was true. -/
def RelHit (w : World) (b : Nat) (n : Int) (len : Nat) (won i : Value) (wr : World) : Prop :=
  ∃ (k : Nat) (m q : Int), k ≤ len ∧ i = .int .i64 k ∧ won = .int .i64 q ∧ (k = 0 → q = 0) ∧ (0 < k → q = 1) ∧ (k = 0 → m = n) ∧ (0 < k → m ≠ n) ∧ Word wr b m k ∧ Below w.heap.size w wr

/-- .. where it had another one: none was. -/
def RelMiss (w : World) (b : Nat) (n : Int) (len : Nat) (won i : Value) (wr : World) : Prop :=
  ∃ (k : Nat), k ≤ len ∧ i = .int .i64 k ∧ won = .int .i64 0 ∧ Word wr b n k ∧ Below w.heap.size w wr

theorem walk_long (a0 a1 : Int) (a2 : Option Addr) (len2 cap2 : Nat) (w : World) (h : 200 < (len2 : Int)) :
    Calls Try.prog 4 #[.int .i64 a0, .int .i64 a1, .slice a2 len2 cap2] w fun e w' => e = .returned (.bool true) ∧ Below w.heap.size w w' := by
  go_enter Try.func4, Try.ntmps4
  go_wp2_with fail
  refine (alive_any _).mono ?_
  rintro e v1 ⟨rfl, g1⟩
  go_wp2
  go_ret
  exact ⟨rfl, gb_below g1.out⟩

theorem walk_miss (a0 a1 : Int) (a2 : Option Addr) (len2 cap2 : Nat) (z2 : Nat → Int) (w : World) (w2 : IsRow .u8 w a2 len2 cap2 z2) (h : ¬ 200 < (len2 : Int)) (hne : (a0 == a1) = false) :
    Calls Try.prog 4 #[.int .i64 a0, .int .i64 a1, .slice a2 len2 cap2] w fun e w' => e = .returned (.bool true) ∧ Below w.heap.size w w' := by
  have W2 := Lib.hid w2
  clear w2
  go_enter Try.func4, Try.ntmps4
  go_wp2_with fail
  refine (alive_any _).mono ?_
  rintro e v1 ⟨rfl, g1⟩
  go_wp2_with fail
  refine (of_made _ _).mono ?_
  rintro e v2 ⟨b, rfl, hb, R2, g2⟩
  have B2 := Lib.hid (bl_none (gb_below g1.out) g2.out)
  have hbw : Hid (w.heap.size ≤ b) := Nat.le_trans g1.out.size hb
  clear g2 g1 hb
  go_wp2_with fail
  go_loopw [8, 9] (fun won i wr => RelMiss w b a0 len2 won i wr) (fun _ i _ => (len2 - intOf i).toNat)
  case atStart => exact ⟨0, by omega, rfl, rfl, R2.out, B2.out⟩
  case round =>
    obtain ⟨k, hk, rfl, rfl, R0, B0⟩ := hrel
    have R := Lib.hid R0
    have B := Lib.hid B0
    clear R0 B0
    by_cases hlt : k < len2
    · obtain ⟨_, _, h0 | ⟨b2, off2, rfl, hb2, hz⟩⟩ := W2.out
      · exfalso; omega
      have hcell := (B.out.cell (p := ⟨b2, off2 + k, none⟩) hb2).trans (hz k hlt).1
      obtain ⟨zl, zu⟩ := bounds_u8 (hz k hlt).2
      clear hz hb2
      generalize z2 k = t at *
      have hlt' : (k : Int) < (len2 : Int) := by omega
      by_cases ht : (t == a1) = true
      · have a1l : a1 ≤ 255 := by simp at ht; omega
        have hn : (1000 == a1) = false := by simp; omega
        go_wp2_with fail
        refine (swap_miss b a0 a1 1000 k _ R.out (by omega) (by omega) hne).mono ?_
        rintro e v3 ⟨rfl, R3, g3⟩
        have B3 := Lib.hid (bl_own B.out g3.out hbw.out)
        go_wp2
        go_roundw
        case rel => exact ⟨k + 1, by omega, by go_num, rfl, R3.out, B3.out⟩
        case measure => simp [intOf]; omega
      · have ht' : (t == a1) = false := by simpa using ht
        go_wp2_with fail
        refine (swap_miss b a0 a1 t k _ R.out (by omega) (by omega) hne).mono ?_
        rintro e v3 ⟨rfl, R3, g3⟩
        have B3 := Lib.hid (bl_own B.out g3.out hbw.out)
        go_wp2
        go_roundw
        case rel => exact ⟨k + 1, by omega, by go_num, rfl, R3.out, B3.out⟩
        case measure => simp [intOf]; omega
    · have hk' : k = len2 := by omega
      subst hk'
      go_wp2_with fail
      refine (accesses_any b a0 k _ R.out).mono ?_
      rintro e v3 ⟨rfl, rfl⟩
      go_wp2
      go_ret
      exact ⟨rfl, B.out⟩

theorem walk_hit (a0 : Int) (a2 : Option Addr) (len2 cap2 : Nat) (z2 : Nat → Int) (w : World) (w2 : IsRow .u8 w a2 len2 cap2 z2) (h : ¬ 200 < (len2 : Int)) :
    Calls Try.prog 4 #[.int .i64 a0, .int .i64 a0, .slice a2 len2 cap2] w fun e w' => e = .returned (.bool true) ∧ Below w.heap.size w w' := by
  have W2 := Lib.hid w2
  clear w2
  go_enter Try.func4, Try.ntmps4
  go_wp2_with fail
  refine (alive_any _).mono ?_
  rintro e v1 ⟨rfl, g1⟩
  go_wp2_with fail
  refine (of_made _ _).mono ?_
  rintro e v2 ⟨b, rfl, hb, R2, g2⟩
  have B2 := Lib.hid (bl_none (gb_below g1.out) g2.out)
  have hbw : Hid (w.heap.size ≤ b) := Nat.le_trans g1.out.size hb
  clear g2 g1 hb
  go_wp2_with fail
  go_loopw [8, 9] (fun won i wr => RelHit w b a0 len2 won i wr) (fun _ i _ => (len2 - intOf i).toNat)
  case atStart => exact ⟨0, a0, 0, by omega, rfl, rfl, fun _ => rfl, fun h => by omega, fun _ => rfl, fun h => by omega, R2.out, B2.out⟩
  case round =>
    obtain ⟨k, m, q, hk, rfl, rfl, hq0, hq1, hm0, hm1, R0, B0⟩ := hrel
    have R := Lib.hid R0
    have B := Lib.hid B0
    clear R0 B0
    by_cases hlt : k < len2
    · obtain ⟨_, _, h0 | ⟨b2, off2, rfl, hb2, hz⟩⟩ := W2.out
      · exfalso; omega
      have hcell := (B.out.cell (p := ⟨b2, off2 + k, none⟩) hb2).trans (hz k hlt).1
      obtain ⟨zl, zu⟩ := bounds_u8 (hz k hlt).2
      clear hz hb2
      generalize z2 k = t at *
      have hlt' : (k : Int) < (len2 : Int) := by omega
      by_cases hk0 : k = 0
      · obtain rfl : m = a0 := hm0 hk0
        obtain rfl : q = 0 := hq0 hk0
        have hkz : (k : Int) ≤ 0 := by omega
        clear hm0 hm1 hq0 hq1 hk0
        by_cases ht : (t == m) = true
        · have a1l : m ≤ 255 := by simp at ht; omega
          have hn : (1000 == m) = false := by simp; omega
          go_wp2_with fail
          refine (swap_hit b m 1000 k _ R.out (by omega) (by omega)).mono ?_
          rintro e v3 ⟨rfl, R3, g3⟩
          have B3 := Lib.hid (bl_own B.out g3.out hbw.out)
          go_wp2
          go_roundw
          case rel => exact ⟨k + 1, 1000, 1, by omega, by go_num, rfl, fun h => by omega, fun _ => rfl, fun h => by omega, fun _ => by omega, R3.out, B3.out⟩
          case measure => simp [intOf]; omega
        · have ht' : (t == m) = false := by simpa using ht
          go_wp2_with fail
          refine (swap_hit b m t k _ R.out (by omega) (by omega)).mono ?_
          rintro e v3 ⟨rfl, R3, g3⟩
          have B3 := Lib.hid (bl_own B.out g3.out hbw.out)
          go_wp2
          go_roundw
          case rel => exact ⟨k + 1, t, 1, by omega, by go_num, rfl, fun h => by omega, fun _ => rfl, fun h => by omega, fun _ => by simpa using ht', R3.out, B3.out⟩
          case measure => simp [intOf]; omega
      · have hmne : (m == a0) = false := by simpa using hm1 (by omega)
        have Hm1 := Lib.hid hm1
        obtain rfl : q = 1 := hq1 (by omega)
        clear hm0 hm1 hq0 hq1
        by_cases ht : (t == a0) = true
        · have a1l : a0 ≤ 255 := by simp at ht; omega
          have hn : (1000 == a0) = false := by simp; omega
          go_wp2_with fail
          refine (swap_miss b m a0 1000 k _ R.out (by omega) (by omega) hmne).mono ?_
          rintro e v3 ⟨rfl, R3, g3⟩
          have B3 := Lib.hid (bl_own B.out g3.out hbw.out)
          go_wp2
          go_roundw
          case rel => exact ⟨k + 1, m, 1, by omega, by go_num, rfl, fun h => by omega, fun _ => rfl, fun h => by omega, fun _ => Hm1.out (by omega), R3.out, B3.out⟩
          case measure => simp [intOf]; omega
        · have ht' : (t == a0) = false := by simpa using ht
          go_wp2_with fail
          refine (swap_miss b m a0 t k _ R.out (by omega) (by omega) hmne).mono ?_
          rintro e v3 ⟨rfl, R3, g3⟩
          have B3 := Lib.hid (bl_own B.out g3.out hbw.out)
          go_wp2
          go_roundw
          case rel => exact ⟨k + 1, m, 1, by omega, by go_num, rfl, fun h => by omega, fun _ => rfl, fun h => by omega, fun _ => Hm1.out (by omega), R3.out, B3.out⟩
          case measure => simp [intOf]; omega
    · have hk' : k = len2 := by omega
      subst hk'
      clear hm0 hm1
      by_cases hk0 : k = 0
      · obtain rfl : q = 0 := hq0 hk0
        have hkz : (k : Int) ≤ 0 := by omega
        clear hq0 hq1 hk0
        go_wp2_with fail
        refine (accesses_any b m k _ R.out).mono ?_
        rintro e v3 ⟨rfl, rfl⟩
        go_wp2
        go_ret
        exact ⟨rfl, B.out⟩
      · have hp : 0 < (k : Int) := by omega
        obtain rfl : q = 1 := hq1 (by omega)
        clear hq0 hq1
        go_wp2_with fail
        refine (accesses_any b m k _ R.out).mono ?_
        rintro e v3 ⟨rfl, rfl⟩
        go_wp2
        go_ret
        exact ⟨rfl, B.out⟩

theorem walk (a0 a1 : Int) (a2 : Option Addr) (len2 cap2 : Nat) (z2 : Nat → Int) (w : World) (w0 : (Lit.int .i64 a0).wf = true) (w1 : (Lit.int .i64 a1).wf = true) (w2 : IsRow .u8 w a2 len2 cap2 z2) :
    Calls Try.prog 4 #[.int .i64 a0, .int .i64 a1, .slice a2 len2 cap2] w fun e w' => e = .returned (.bool true) ∧ Below w.heap.size w w' := by
  by_cases h : 200 < (len2 : Int)
  · exact walk_long a0 a1 a2 len2 cap2 w h
  · by_cases hne : (a0 == a1) = false
    · exact walk_miss a0 a1 a2 len2 cap2 z2 w w2 h hne
    · obtain rfl : a0 = a1 := by simpa using hne
      exact walk_hit a0 a2 len2 cap2 z2 w w2 h

theorem own : ownKnob Try.prog.godebug = none := by kernel_rfl
theorem laidOut : laidOutB Try.prog = true := by kernel_rfl

/-! ### THE ROW's STEP, as the guide has it -/
set_option maxRecDepth 100000 in
theorem lifted (os : Os) (started : os.Started) (H : Type) (enc : TypeId × Value → H) :
    ReturnsInHanded {} Try.checked os 4 .any (Rows.wordOnceSpec.pre6 enc Try.prog Try.f4 Rows.wordOnceRow.domain false) (Rows.wordOnceSpec.post enc Try.prog Try.f4 false true false false) := by
  refine returnsInHanded_of_change (C := Try.checked) own started (by kernel_rfl) Try.func4
    (ChangeSpec.witness6 (enc := enc) (C := Try.checked) false ⟨#[], #[.int .i64 0, .int .i64 0, .slice none 0 0], []⟩ 8 (by kernel_rfl) (by kernel_rfl) (by kernel_rfl) (by kernel_rfl)) ?_
  intro W base args ds gs before hval0 hW hcnd _
  have hval : ∀ (j : Nat) t v, Try.f4.params[j]? = some t → args[j]? = some v → Value.okWide Try.prog W .any base t v := hval0
  have hW' := hW
  obtain ⟨p, q, hA0, hV, rfl, hfz, hnd⟩ := hW
  have hA : DataW.TrodAll enc Try.prog W 0 (fun _ => true) true Try.f4.params.toList args.toList ds p := hA0
  rw [Try.params4] at hA hval
  obtain ⟨v0, vs0, d0, ds0, p0, q0, hargs, rfl, rfl, h0, r0⟩ := trodAll_cons hA
  obtain ⟨v1, vs1, d1, ds1, p1, q1, rfl, rfl, rfl, h1, r1⟩ := trodAll_cons r0
  obtain ⟨v2, vs2, d2, ds2, p2, q2, rfl, rfl, rfl, h2, r2⟩ := trodAll_cons r1
  obtain ⟨rfl, rfl, rfl⟩ := trodAll_nil r2
  obtain rfl : args = #[v0, v1, v2] := by cases args; simp_all
  obtain ⟨rfl, rfl⟩ := trodVars_none hV
  obtain ⟨a0, rfl, rfl, rfl, w0⟩ := open_int Try.underlying3 (hval 0 3 v0 rfl rfl) h0
  obtain ⟨a1, rfl, rfl, rfl, w1⟩ := open_int Try.underlying3 (hval 1 3 v1 rfl rfl) h1
  obtain ⟨a2, len2, cap2, rfl⟩ := okWide_slice Try.underlying34 (hval 2 34 v2 rfl rfl)
  have k2 := h2
  have lt2 : ∀ x ∈ p2, x.block < W.heap.size := by obtain ⟨m, hm⟩ := k2; exact DataW.trod_lt m _ _ _ hm
  obtain ⟨z2, w2⟩ : ∃ z, IsRow .u8 W a2 len2 cap2 z := by
    obtain ⟨fuel, hf⟩ := h2
    exact isRow_of Try.underlying34 Try.underlying5 (by kernel_rfl) hf
  clear hA0 hval0
  refine (walk a0 a1 a2 len2 cap2 z2 W w0 w1 w2).mono fun e W' ⟨he, bel⟩ => ?_
  subst he
  exact ⟨_, rfl, _, _, _, [], _, [], hW', trodAll_mk1 (shut_bool Try.underlying4 _), (trodAll_cons_mk (shut_int Try.underlying3 w0) (trodAll_cons_mk (shut_int Try.underlying3 w1) (trodAll_cons_mk (Below.trod laidOut (by kernel_rfl) (of_decide_eq_true (by kernel_rfl)) k2 bel lt2) trodAll_mk0))), rfl, bel.frame _, fun h => by cases h⟩

theorem over : Rows.wordOnceRow.holds Try.pinned (OpenSpec.ofChange Rows.wordOnceSpec) :=
  OpenClaim.holds_of_wide 4 Try.f4 rfl rfl rfl rfl rfl rfl rfl ⟨rfl, rfl, rfl, rfl, rfl⟩ rfl rfl rfl rfl rfl (by kernel_rfl) Try.func4 (by kernel_rfl)
    (of_decide_eq_true (by kernel_rfl)) (by unfold Func.isWrapper; first | (rw [if_pos (by decide +kernel)]; kernel_rfl) | (rw [if_neg (by decide +kernel)]; exact ⟨rfl, rfl⟩))
    (fun os started H enc _ => lifted os started H enc)

theorem proved : Rows.WordOnceSaid := over
#print axioms proved
end Go.Proofs.Ytjnemfjfehhfpaa.wordOnce
