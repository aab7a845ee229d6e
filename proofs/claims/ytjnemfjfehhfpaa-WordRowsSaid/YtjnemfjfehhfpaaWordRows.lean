/-
  WordRows: of two rows of tickets, asked in whatever order, each tells its own tickets in order up to its own cap, what the other one tells plays no part, and a row that is exhausted stays so; for any two caps from 0 to 255 and any order.
  Conditions: none (of an order of more than 600 the law says nothing by itself).
-/
import Derived.Test.YtjnemfjfehhfpaaRows
import Derived.Test.YtjnemfjfehhfpaaOpen
import Derived.Test.YtjnemfjfehhfpaaWord
import Derived.Test.YtjnemfjfehhfpaaTick
namespace Go.Proofs.Ytjnemfjfehhfpaa.wordRows
open Go.ChangeShapes Go.WideShapes Go.ChangeAt Go.RowKit Go.Proofs.Ytjnemfjfehhfpaa.base Go.Proofs.Ytjnemfjfehhfpaa.wd
set_option linter.unusedVariables false

/-- At the head of a round: how many tickets each row told. -/
def Rel (w : World) (bx bz : Nat) (p q : Int) (len : Nat) (n m i : Value) (wr : World) : Prop :=
  ∃ (k : Nat) (N M : Int), k ≤ len ∧ i = .int .i64 k ∧ n = .int .i64 N ∧ m = .int .i64 M ∧ 0 ≤ N ∧ N ≤ p ∧ 0 ≤ M ∧ M ≤ q ∧ Row wr bx p N ∧ Row wr bz q M ∧ Below w.heap.size w wr

theorem walk_long (a0 a1 : Int) (a2 : Option Addr) (len2 cap2 : Nat) (w : World) (h : 600 < (len2 : Int)) :
    Calls Try.prog 8 #[.int .u8 a0, .int .u8 a1, .slice a2 len2 cap2] w fun e w' => e = .returned (.bool true) ∧ Below w.heap.size w w' := by
  go_enter Try.func8, Try.ntmps8
  go_wp2_with fail
  refine (alive_any _).mono ?_
  rintro e v1 ⟨rfl, g1⟩
  go_wp2
  go_ret
  exact ⟨rfl, gb_below g1.out⟩

set_option maxRecDepth 100000 in
set_option maxHeartbeats 1000000 in
theorem walk_short (a0 a1 : Int) (a2 : Option Addr) (len2 cap2 : Nat) (z2 : Nat → Bool) (w : World) (l0 : 0 ≤ a0) (u0 : a0 ≤ 255) (l1 : 0 ≤ a1) (u1 : a1 ≤ 255) (w2 : IsBools w a2 len2 cap2 z2) (h : ¬ 600 < (len2 : Int)) :
    Calls Try.prog 8 #[.int .u8 a0, .int .u8 a1, .slice a2 len2 cap2] w fun e w' => e = .returned (.bool true) ∧ Below w.heap.size w w' := by
  have W2 := Lib.hid w2
  clear w2
  go_enter Try.func8, Try.ntmps8
  go_wp2_with fail
  refine (alive_any _).mono ?_
  rintro e v1 ⟨rfl, g1⟩
  go_wp2_with fail
  refine (new_made a0 _ l0 u0).mono ?_
  rintro e v2 ⟨bx, rfl, hb, R2, g2⟩
  have B2 := Lib.hid (bl_none (gb_below g1.out) g2.out)
  have hbx : Hid (w.heap.size ≤ bx) := Nat.le_trans g1.out.size hb
  clear g2 g1 hb
  go_wp2_with fail
  refine (new_made a1 _ l1 u1).mono ?_
  rintro e v3 ⟨bz, rfl, hb, S3, g3⟩
  have B3 := Lib.hid (bl_none B2.out g3.out)
  have hbz : Hid (w.heap.size ≤ bz) := Nat.le_trans B2.out.size hb
  have hne : Hid (bx ≠ bz) := by have := R2.out.lt; have := hb.out; show bx ≠ bz; omega
  have R3 : Hid (Row v3 bx a0 0) := R2.out.grown g3.out (by simp)
  clear g3 hb R2 B2
  go_wp2_with fail
  go_loopw [11, 12, 13] (fun n m i wr => Rel w bx bz a0 a1 len2 n m i wr) (fun _ _ i _ => (len2 - intOf i).toNat)
  case atStart => exact ⟨0, 0, 0, by omega, rfl, rfl, rfl, by omega, by omega, by omega, by omega, R3.out, S3.out, B3.out⟩
  case round =>
    obtain ⟨k, N, M, hk, rfl, rfl, rfl, N0, N1, M0, M1, R0, S0, B0⟩ := hrel
    have R := Lib.hid R0
    have S := Lib.hid S0
    have B := Lib.hid B0
    clear R0 S0 B0
    by_cases hlt : k < len2
    · obtain ⟨_, _, h0 | ⟨b2, off2, rfl, hb2, hz⟩⟩ := W2.out
      · exfalso; omega
      have hcell := (B.out.cell (p := ⟨b2, off2 + k, none⟩) hb2).trans (hz k hlt)
      clear hz hb2
      have hlt' : (k : Int) < (len2 : Int) := by omega
      by_cases ht : z2 k = true
      · rw [ht] at hcell
        clear ht
        by_cases hN : N < a0
        · go_wp2_with fail
          refine (take_more bx a0 N _ R.out N0 hN u0).mono ?_
          rintro e v4 ⟨rfl, R4, g4⟩
          have B4 := Lib.hid (bl_own B.out g4.out hbx.out)
          have S4 : Hid (Row v4 bz a1 M) := S.out.grown g4.out (by simpa using hne.out.symm)
          go_wp2_with fail
          refine (taken_any bx a0 (N + 1) _ R4.out).mono ?_
          rintro e v5 ⟨rfl, rfl⟩
          go_wp2_with fail
          refine (taken_any bz a1 M _ S4.out).mono ?_
          rintro e v6 ⟨rfl, rfl⟩
          go_wp2
          go_roundw
          case rel => exact ⟨k + 1, _, _, by omega, by go_num, rfl, rfl, by omega, by omega, by omega, by omega, R4.out, S4.out, B4.out⟩
          case measure => simp [intOf]; omega
        · obtain rfl : N = a0 := by omega
          go_wp2_with fail
          refine (take_end bx N N _ R.out (by omega)).mono ?_
          rintro e v4 ⟨rfl, R4, g4⟩
          have B4 := Lib.hid (bl_none B.out g4.out)
          have S4 : Hid (Row v4 bz a1 M) := S.out.grown g4.out (by simp)
          go_wp2_with fail
          refine (taken_any bx N N _ R4.out).mono ?_
          rintro e v5 ⟨rfl, rfl⟩
          go_wp2_with fail
          refine (taken_any bz a1 M _ S4.out).mono ?_
          rintro e v6 ⟨rfl, rfl⟩
          go_wp2
          go_roundw
          case rel => exact ⟨k + 1, _, _, by omega, by go_num, rfl, rfl, by omega, by omega, by omega, by omega, R4.out, S4.out, B4.out⟩
          case measure => simp [intOf]; omega
      · rw [show z2 k = false by simpa using ht] at hcell
        clear ht
        by_cases hN : M < a1
        · go_wp2_with fail
          refine (take_more bz a1 M _ S.out M0 hN u1).mono ?_
          rintro e v4 ⟨rfl, S4, g4⟩
          have B4 := Lib.hid (bl_own B.out g4.out hbz.out)
          have R4 : Hid (Row v4 bx a0 N) := R.out.grown g4.out (by simpa using hne.out)
          go_wp2_with fail
          refine (taken_any bx a0 N _ R4.out).mono ?_
          rintro e v5 ⟨rfl, rfl⟩
          go_wp2_with fail
          refine (taken_any bz a1 (M + 1) _ S4.out).mono ?_
          rintro e v6 ⟨rfl, rfl⟩
          go_wp2
          go_roundw
          case rel => exact ⟨k + 1, _, _, by omega, by go_num, rfl, rfl, by omega, by omega, by omega, by omega, R4.out, S4.out, B4.out⟩
          case measure => simp [intOf]; omega
        · obtain rfl : M = a1 := by omega
          go_wp2_with fail
          refine (take_end bz M M _ S.out (by omega)).mono ?_
          rintro e v4 ⟨rfl, S4, g4⟩
          have B4 := Lib.hid (bl_none B.out g4.out)
          have R4 : Hid (Row v4 bx a0 N) := R.out.grown g4.out (by simp)
          go_wp2_with fail
          refine (taken_any bx a0 N _ R4.out).mono ?_
          rintro e v5 ⟨rfl, rfl⟩
          go_wp2_with fail
          refine (taken_any bz M M _ S4.out).mono ?_
          rintro e v6 ⟨rfl, rfl⟩
          go_wp2
          go_roundw
          case rel => exact ⟨k + 1, _, _, by omega, by go_num, rfl, rfl, by omega, by omega, by omega, by omega, R4.out, S4.out, B4.out⟩
          case measure => simp [intOf]; omega
    · go_wp2
      go_ret
      exact ⟨rfl, B.out⟩

theorem walk (a0 a1 : Int) (a2 : Option Addr) (len2 cap2 : Nat) (z2 : Nat → Bool) (w : World) (w0 : (Lit.int .u8 a0).wf = true) (w1 : (Lit.int .u8 a1).wf = true) (w2 : IsBools w a2 len2 cap2 z2) :
    Calls Try.prog 8 #[.int .u8 a0, .int .u8 a1, .slice a2 len2 cap2] w fun e w' => e = .returned (.bool true) ∧ Below w.heap.size w w' := by
  by_cases h : 600 < (len2 : Int)
  · exact walk_long a0 a1 a2 len2 cap2 w h
  · exact walk_short a0 a1 a2 len2 cap2 z2 w (bounds_u8 w0).1 (bounds_u8 w0).2 (bounds_u8 w1).1 (bounds_u8 w1).2 w2 h

theorem own : ownKnob Try.prog.godebug = none := by kernel_rfl
theorem laidOut : laidOutB Try.prog = true := by kernel_rfl

/-! ### THE ROW's STEP, as the guide has it -/
set_option maxRecDepth 100000 in
theorem lifted (os : Os) (started : os.Started) (H : Type) (enc : TypeId × Value → H) :
    ReturnsInHanded {} Try.checked os 8 .any (Rows.wordRowsSpec.pre6 enc Try.prog Try.f8 Rows.wordRowsRow.domain false) (Rows.wordRowsSpec.post enc Try.prog Try.f8 false true false false) := by
  refine returnsInHanded_of_change (C := Try.checked) own started (by kernel_rfl) Try.func8
    (ChangeSpec.witness6 (enc := enc) (C := Try.checked) false ⟨#[], #[.int .u8 0, .int .u8 0, .slice none 0 0], []⟩ 8 (by kernel_rfl) (by kernel_rfl) (by kernel_rfl) (by kernel_rfl)) ?_
  intro W base args ds gs before hval0 hW hcnd _
  have hval : ∀ (j : Nat) t v, Try.f8.params[j]? = some t → args[j]? = some v → Value.okWide Try.prog W .any base t v := hval0
  have hW' := hW
  obtain ⟨p, q, hA0, hV, rfl, hfz, hnd⟩ := hW
  have hA : DataW.TrodAll enc Try.prog W 0 (fun _ => true) true Try.f8.params.toList args.toList ds p := hA0
  rw [Try.params8] at hA hval
  obtain ⟨v0, vs0, d0, ds0, p0, q0, hargs, rfl, rfl, h0, r0⟩ := trodAll_cons hA
  obtain ⟨v1, vs1, d1, ds1, p1, q1, rfl, rfl, rfl, h1, r1⟩ := trodAll_cons r0
  obtain ⟨v2, vs2, d2, ds2, p2, q2, rfl, rfl, rfl, h2, r2⟩ := trodAll_cons r1
  obtain ⟨rfl, rfl, rfl⟩ := trodAll_nil r2
  obtain rfl : args = #[v0, v1, v2] := by cases args; simp_all
  obtain ⟨rfl, rfl⟩ := trodVars_none hV
  obtain ⟨a0, rfl, rfl, rfl, w0⟩ := open_int Try.underlying5 (hval 0 5 v0 rfl rfl) h0
  obtain ⟨a1, rfl, rfl, rfl, w1⟩ := open_int Try.underlying5 (hval 1 5 v1 rfl rfl) h1
  obtain ⟨a2, len2, cap2, rfl⟩ := okWide_slice Try.underlying44 (hval 2 44 v2 rfl rfl)
  have k2 := h2
  have lt2 : ∀ x ∈ p2, x.block < W.heap.size := by obtain ⟨m, hm⟩ := k2; exact DataW.trod_lt m _ _ _ hm
  obtain ⟨z2, w2⟩ : ∃ z, IsBools W a2 len2 cap2 z := by
    obtain ⟨fuel, hf⟩ := h2
    exact isBools_of Try.underlying44 Try.underlying4 (by kernel_rfl) hf
  clear hA0 hval0
  refine (walk a0 a1 a2 len2 cap2 z2 W w0 w1 w2).mono fun e W' ⟨he, bel⟩ => ?_
  subst he
  exact ⟨_, rfl, _, _, _, [], _, [], hW', trodAll_mk1 (shut_bool Try.underlying4 _), (trodAll_cons_mk (shut_int Try.underlying5 w0) (trodAll_cons_mk (shut_int Try.underlying5 w1) (trodAll_cons_mk (Below.trod laidOut (by kernel_rfl) (of_decide_eq_true (by kernel_rfl)) k2 bel lt2) trodAll_mk0))), rfl, bel.frame _, fun h => by cases h⟩

theorem over : Rows.wordRowsRow.holds Try.pinned (OpenSpec.ofChange Rows.wordRowsSpec) :=
  OpenClaim.holds_of_wide 8 Try.f8 rfl rfl rfl rfl rfl rfl rfl ⟨rfl, rfl, rfl, rfl, rfl⟩ rfl rfl rfl rfl rfl (by kernel_rfl) Try.func8 (by kernel_rfl)
    (of_decide_eq_true (by kernel_rfl)) (by unfold Func.isWrapper; first | (rw [if_pos (by decide +kernel)]; kernel_rfl) | (rw [if_neg (by decide +kernel)]; exact ⟨rfl, rfl⟩))
    (fun os started H enc _ => lifted os started H enc)

theorem proved : Rows.WordRowsSaid := over
#print axioms proved
end Go.Proofs.Ytjnemfjfehhfpaa.wordRows
