/- The contracts of package lang's Right, Opens, and of the document's own (quarrelref11.Right, Same). -/
import Derived.Test.YtdohepenmejcaaaLang
import Derived.Laws.StructEq
import Derived.Laws.Tables
namespace Go.Proofs.Ytdohepenmejcaaa.lg
open Go Go.RowKit Go.Proofs.Ytdohepenmejcaaa.base
set_option linter.unusedVariables false

theorem right_any (a1 : Option Addr) (len cap : Nat) (z : Nat → Nat → Int) (n : Int) (w : World) (hz : IsOps w a1 len z) :
    Calls Try.prog 53 #[.slice a1 len cap, .int .i64 n] w fun e w' => e = .returned (.bool (rightB z len n)) ∧ Hid (w.grownBy w' none) := by
  have Z := Lib.hid hz
  clear hz
  by_cases h0 : len = 0
  · subst h0
    go_enter Try.func53, Try.ntmps53
    go_wp2
    go_ret
    exact ⟨rfl, gb_refl _ _⟩
  by_cases h8 : 8 < len
  · have hd : decide ((8 : Int) < (len : Int)) = true := by simp; omega
    have hz' : ((len : Int) == 0) = false := by simp; omega
    have H := Lib.hid (show rightB z len n = false by simp [rightB]; omega)
    go_enter Try.func53, Try.ntmps53
    go_wp2
    go_ret
    exact ⟨ret_bool H.out.symm, gb_refl _ _⟩
  have hd : decide ((8 : Int) < (len : Int)) = false := by simp; omega
  have hz' : ((len : Int) == 0) = false := by simp; omega
  have H := Lib.hid (show rightB z len n = okN z n len by simp [rightB]; omega)
  go_enter Try.func53, Try.ntmps53
  go_wp2_with fail
  clear hd hz'
  go_loopw [17] (fun iv wr => ∃ k : Nat, k ≤ len ∧ iv = .int .i64 k ∧ Hid (okN z n k = true) ∧ Hid (w.grownBy wr none)) (fun iv _ => (len - intOf iv).toNat)
  case atStart => exact ⟨0, by omega, rfl, rfl, gb_refl _ _⟩
  case round =>
    obtain ⟨k, hk, rfl, K, B⟩ := hrel
    by_cases hlt : k < len
    · obtain ⟨b1, off1, rfl, hb1, c0, c1, c2⟩ := (Z.out.grown B.out).at3 hlt
      have hlt' : (k : Int) < (len : Int) := by omega
      cases hB : okB (z k 0) (z k 1) (z k 2) n with
      | false =>
        have HB := Lib.hid (okN_false hlt hB)
        generalize z k 0 = z0 at *
        generalize z k 1 = z1 at *
        generalize z k 2 = z2 at *
        have HO := Lib.hid (fun u => (hB ▸ ok_any z0 z1 z2 n u))
        clear hB
        go_wp2_with fail
        refine (HO.out _).mono ?_
        rintro e u ⟨rfl, g⟩
        have G := Lib.hid (gb_trans (gb_alloc B.out (.cells #[.int .i64 z0, .int .i64 z1, .int .i64 z2] 102)) g.out)
        clear g
        go_wp2
        go_ret
        exact ⟨ret_bool (H.out.trans HB.out).symm, G.out⟩
      | true =>
        have HB := Lib.hid (show okN z n (k + 1) = true by simp [okN, K.out, hB])
        generalize z k 0 = z0 at *
        generalize z k 1 = z1 at *
        generalize z k 2 = z2 at *
        have HO := Lib.hid (fun u => (hB ▸ ok_any z0 z1 z2 n u))
        clear hB
        go_wp2_with fail
        refine (HO.out _).mono ?_
        rintro e u ⟨rfl, g⟩
        have G := Lib.hid (gb_trans (gb_alloc B.out (.cells #[.int .i64 z0, .int .i64 z1, .int .i64 z2] 102)) g.out)
        clear g
        go_wp2
        go_roundw
        case rel => exact ⟨k + 1, by omega, by go_num, HB, G⟩
        case measure => simp [intOf]; omega
    · obtain rfl : k = len := by omega
      go_wp2
      go_ret
      exact ⟨ret_bool (H.out.trans K.out).symm, B⟩

theorem refright_any (a1 : Option Addr) (len cap : Nat) (z : Nat → Nat → Int) (n : Int) (w : World) (hz : IsOps w a1 len z) (hm : len ≤ maxLen) :
    Calls Try.prog 35 #[.slice a1 len cap, .int .i64 n] w fun e w' => e = .returned (.bool (rightB z len n)) ∧ Hid (w.grownBy w' none) := by
  have Z := Lib.hid hz
  clear hz
  unfold maxLen at hm
  go_enter Try.func35, Try.ntmps35
  go_wp2_with fail
  go_loopw [5] (fun iv wr => ∃ k : Nat, k ≤ len ∧ iv = .int .i64 k ∧ Hid (okN z n k = true) ∧ Hid (w.grownBy wr none)) (fun iv _ => (len - intOf iv).toNat)
  case atStart => exact ⟨0, by omega, rfl, rfl, gb_refl _ _⟩
  case round =>
    obtain ⟨k, hk, rfl, K, B⟩ := hrel
    by_cases hlt : k < len
    · obtain ⟨b1, off1, rfl, hb1, c0, c1, c2⟩ := (Z.out.grown B.out).at3 hlt
      have hlt' : (k : Int) < (len : Int) := by omega
      cases hB : okB (z k 0) (z k 1) (z k 2) n with
      | false =>
        have HB := Lib.hid (show rightB z len n = false by simp [rightB, okN_false hlt hB])
        generalize z k 0 = z0 at *
        generalize z k 1 = z1 at *
        generalize z k 2 = z2 at *
        have HO := Lib.hid (fun u => (hB ▸ refok_any z0 z1 z2 n u))
        clear hB
        go_wp2_with fail
        refine (HO.out _).mono ?_
        rintro e u ⟨rfl, g⟩
        have G := Lib.hid (gb_trans B.out g.out)
        clear g
        go_wp2
        go_ret
        exact ⟨ret_bool HB.out.symm, G.out⟩
      | true =>
        have HB := Lib.hid (show okN z n (k + 1) = true by simp [okN, K.out, hB])
        generalize z k 0 = z0 at *
        generalize z k 1 = z1 at *
        generalize z k 2 = z2 at *
        have HO := Lib.hid (fun u => (hB ▸ refok_any z0 z1 z2 n u))
        clear hB
        go_wp2_with fail
        refine (HO.out _).mono ?_
        rintro e u ⟨rfl, g⟩
        have G := Lib.hid (gb_trans B.out g.out)
        clear g
        go_wp2
        go_roundw
        case rel => exact ⟨k + 1, by omega, by go_num, HB, G⟩
        case measure => simp [intOf]; omega
    · obtain rfl : k = len := by omega
      have H := Lib.hid (show rightB z k n = (decide (0 < k) && decide (k < 9)) by simp [rightB, K.out])
      go_wp2
      all_goals go_ret
      all_goals exact ⟨ret_bool (by rw [H.out, Bool.eq_iff_iff]; simp; omega), B⟩

@[go_sem] theorem eqOp (a0 a1 a2 b0 b1 b2 : Int) (w : World) : (Op.equalIn 10000 102 (.agg #[.int .i64 a0, .int .i64 a1, .int .i64 a2]) (.agg #[.int .i64 b0, .int .i64 b1, .int .i64 b2])).run Try.prog w = .ok (a0 == b0 && a1 == b1 && a2 == b2) w := by
  have u3 := Try.underlying3
  have ag3 := Try.isAgg3
  have z3 := Try.sizeOf3
  have u4 := Try.underlying2
  have ag4 := Try.isAgg2
  have z4 := Try.sizeOf2
  rw [show (10000 : Nat) = 9999 + 1 from rfl, run_equalIn_struct _ _ _ _ _ (by kernel_rfl) (by kernel_rfl)]
  simp only [Program.fieldsOf, Try.underlying102]
  go_simp
  by_cases h0 : a0 = b0 <;> by_cases h1 : a1 = b1 <;> by_cases h2 : a2 = b2 <;> simp [h0, h1, h2]

end Go.Proofs.Ytdohepenmejcaaa.lg
