/-
  LangBack: what may be and was put is got as it was, and what was got is put as those bytes; for any operations, any bytes, and any number of objects.
  Conditions: none (of more than 100 operations, of more than 300 bytes, and of more than 8 objects, the law says nothing by itself).
-/
import Derived.Test.YtjajhkgbhckdeaaRows
import Derived.Test.YtjajhkgbhckdeaaOpen
import Derived.Test.YtjajhkgbhckdeaaAliveL
import Derived.Test.YtjajhkgbhckdeaaStr
import Derived.Deep.RegionHeldLaw
namespace Go.Proofs.Ytjajhkgbhckdeaa.langBack
open Go.ChangeShapes Go.WideShapes Go.ChangeAt Go.RowKit Go.Proofs.Ytjajhkgbhckdeaa.base Go.Proofs.Ytjajhkgbhckdeaa.lg
set_option linter.unusedVariables false

theorem walk_out (a0 : Option Addr) (len0 cap0 : Nat) (a1 : Option Addr) (len1 cap1 : Nat) (n : Int) (w : World) (h : 100 < len0 ∨ 300 < len1 ∨ 8 < n) :
    Calls Try.prog 6 #[.slice a0 len0 cap0, .slice a1 len1 cap1, .int .i64 n] w (fun e w' => e = .returned (.bool true) ∧ Below w.heap.size w w') := by
  by_cases h0 : 100 < len0
  · have hd : decide ((100 : Int) < (len0 : Int)) = true := by simp; omega
    clear h
    go_enter Try.func6, Try.ntmps6
    go_wp2_with fail
    refine (alive_any _).mono ?_
    rintro e v1 ⟨rfl, g1⟩
    go_wp2
    go_ret
    exact ⟨rfl, gb_below g1.out⟩
  · have hd : decide ((100 : Int) < (len0 : Int)) = false := by simp; omega
    by_cases h1 : 300 < len1
    · have hd1 : decide ((300 : Int) < (len1 : Int)) = true := by simp; omega
      clear h
      go_enter Try.func6, Try.ntmps6
      go_wp2_with fail
      refine (alive_any _).mono ?_
      rintro e v1 ⟨rfl, g1⟩
      go_wp2
      go_ret
      exact ⟨rfl, gb_below g1.out⟩
    · have hd1 : decide ((300 : Int) < (len1 : Int)) = false := by simp; omega
      have hn : decide ((8 : Int) < n) = true := by simp; omega
      clear h
      go_enter Try.func6, Try.ntmps6
      go_wp2_with fail
      refine (alive_any _).mono ?_
      rintro e v1 ⟨rfl, g1⟩
      go_wp2
      go_ret
      exact ⟨rfl, gb_below g1.out⟩

set_option maxRecDepth 100000 in
set_option maxHeartbeats 1000000 in
theorem walk_tA (a0 : Option Addr) (len0 cap0 : Nat) (z0 : Nat → Nat → Int) (a1 : Option Addr) (len1 cap1 : Nat) (bf : Nat → Int) (n : Int) (w : World) (w0 : IsOps w a0 len0 z0) (w1 : IsNums .u8 w a1 len1 bf) (hb : ∀ i, i < len1 → 0 ≤ bf i ∧ bf i ≤ 255) (hc1 : len1 ≤ cap1) (hc2 : cap1 ≤ maxLen) (h0 : len0 ≤ 100) (h1 : len1 ≤ 300) (h8 : n ≤ 8)
    (hok : okN z0 n len0 = true) (m : Nat) (hm : GA bf len1 n m) :
    Calls Try.prog 6 #[.slice a0 len0 cap0, .slice a1 len1 cap1, .int .i64 n] w (fun e w' => e = .returned (.bool true) ∧ Below w.heap.size w w') := by
  have Z := Lib.hid w0
  have V := Lib.hid w1
  have HOK := Lib.hid hok
  have HM := Lib.hid hm
  have Hb := Lib.hid hb
  have HC2 := Lib.hid hc2
  have hd : decide ((100 : Int) < (len0 : Int)) = false := by simp; omega
  have hd1 : decide ((300 : Int) < (len1 : Int)) = false := by simp; omega
  have hn : decide ((8 : Int) < n) = false := by simp; omega
  have hL3 : (3 : Int) * (len0 : Int) = ((len0 * 3 : Nat) : Int) := by omega
  clear w0 w1 hok hm hb hc2
  go_enter Try.func6, Try.ntmps6
  go_wp2_with fail
  refine (alive_any _).mono ?_
  rintro e v1 ⟨rfl, g1⟩
  go_wp2_with fail
  clear hd hd1 hn
  go_loopw [7, 8] (fun ov iv wr => ∃ (k : Nat) (B : Bool), k ≤ len0 ∧ iv = .int .i64 k ∧ ov = .bool B ∧ Hid (B = okN z0 n k) ∧ Hid (w.grownBy wr none)) (fun _ iv _ => (len0 - intOf iv).toNat)
  case atStart => exact ⟨0, true, by omega, rfl, rfl, rfl, g1⟩
  case round =>
    obtain ⟨k, B, hk, rfl, rfl, K, G⟩ := hrel
    by_cases hlt : k < len0
    · obtain ⟨b9, off9, rfl, hb9, c0, c1, c2⟩ := (Z.out.grown G.out).at3 hlt
      have hlt' : (k : Int) < (len0 : Int) := by omega
      cases B with
      | false =>
        have HB := Lib.hid (show false = okN z0 n (k + 1) by rw [okN, ← K.out]; rfl)
        go_wp2
        go_roundw
        case rel => exact ⟨k + 1, false, by omega, by go_num, rfl, HB, G⟩
        case measure => simp [intOf]; omega
      | true =>
        have HO := Lib.hid (fun u => refok_any (z0 k 0) (z0 k 1) (z0 k 2) n u)
        have HB := Lib.hid (show okB (z0 k 0) (z0 k 1) (z0 k 2) n = okN z0 n (k + 1) by rw [okN, ← K.out]; rfl)
        generalize okB (z0 k 0) (z0 k 1) (z0 k 2) n = C at *
        generalize z0 k 0 = x0 at *
        generalize z0 k 1 = x1 at *
        generalize z0 k 2 = x2 at *
        go_wp2_with fail
        refine (HO.out _).mono ?_
        rintro e u ⟨rfl, g⟩
        have G2 := Lib.hid (gb_trans G.out g.out)
        clear g
        go_wp2
        go_roundw
        case rel => exact ⟨k + 1, C, by omega, by go_num, rfl, HB, G2⟩
        case measure => simp [intOf]; omega
    · obtain rfl : k = len0 := by omega
      obtain rfl : B = true := K.out.trans HOK.out
      clear g1
      go_wp2_with fail
      refine (put_any a0 k cap0 z0 _ (Z.out.grown G.out) (by omega)).mono ?_
      rintro e u1 ⟨b1, c1, rfl, R1, g1⟩
      have G1 := Lib.hid (gb_trans G.out g1.out)
      have N1 := Lib.hid (IsNums.of_own (k := .u8) R1.out)
      obtain ⟨q1, q2⟩ := row_cap R1.out
      have Q2 := Lib.hid q2
      clear g1 R1 G q2
      go_wp2_with fail
      refine (get_A b1 (k * 3) c1 (pb z0) n _ k N1.out (pb_range z0 _) q1 Q2.out (by omega) ⟨rfl, okN_pb HOK.out (by omega)⟩).mono ?_
      rintro e u2 ⟨b2, c2, rfl, R2, g2⟩
      have G2 := Lib.hid (gb_trans G1.out g2.out)
      have M2 := Lib.hid ((IsOps.of_own R2.out).congr (z' := z0) (fun i j hi hj => gz_pb (okN_at HOK.out hi) (by omega) j hj))
      clear g2 R2 N1 G1 Q2
      go_wp2_with fail
      refine (same_true b2 a0 k c2 cap0 z0 _ M2.out (Z.out.grown G2.out) (by unfold maxLen; omega)).mono ?_
      rintro e u3 ⟨rfl, g3⟩
      have G3 := Lib.hid (gb_trans G2.out g3.out)
      clear g3 G2 M2
      go_wp2_with fail
      refine (get_A a1 len1 cap1 bf n _ m (V.out.grown G3.out) Hb.out hc1 HC2.out (by omega) HM.out).mono ?_
      rintro e u4 ⟨b4, c4, rfl, R4, g4⟩
      have G4 := Lib.hid (gb_trans G3.out g4.out)
      have N4 := Lib.hid (IsOps.of_own R4.out)
      clear g4 G3 R4
      have HP := Lib.hid (fun u h => put_any b4 m c4 (gz bf) u h (by have := HM.out.1; omega))
      have hX : bs (pb (gz bf)) (m * 3) = bs bf len1 := by rw [HM.out.1]; exact bs_congr fun i hi => pb_gz Hb.out i (by rw [HM.out.1]; exact hi)
      have HX := Lib.hid hX
      clear hX
      have HV := Lib.hid (fun (u : World) (g : w.grownBy u none) => conv_str u a1 len1 cap1 bf (V.out.grown g))
      generalize bs bf len1 = X at *
      have hcv0 := HV.out u4 G4.out
      have hcv := HV.out u4.drew (gb_drew G4.out)
      go_wp2_with fail
      go_region_held_law (fun w' => (convert 38 9 (.slice a1 len1 cap1)).run Try.prog w' = .ok (.string X) w') (go_keep) ((go_at_call 23; refine (HP.out _ (N4.out.grown (by repeat (first | exact gb_refl _ _ | refine gb_drewN ?_ _ | refine gb_drew ?_ | refine gb_alloc ?_ _)))).mono ?_; rintro e u5 ⟨b5, c5, rfl, R5, g5⟩; have G5 := Lib.hid (show World.grownBy u4 _ none from gb_trans (by repeat (first | exact gb_refl _ _ | refine gb_drewN ?_ _ | refine gb_drew ?_ | refine gb_alloc ?_ _)) g5.out); have hcv := HV.out u5 (gb_trans G4.out G5.out); have hcp : (convert 38 9 (.slice b5 (m * 3) c5)).run Try.prog u5 = .ok (.string X) u5 := HX.out ▸ conv_str u5 b5 (m * 3) c5 _ (IsNums.of_own (k := .u8) R5.out)))
      go_wp2
      go_ret
      exact ⟨rfl, gb_below (gb_trans G4.out (by first | exact G5.out | exact gb_drew G5.out))⟩

set_option maxRecDepth 100000 in
set_option maxHeartbeats 1000000 in
theorem walk_tB (a0 : Option Addr) (len0 cap0 : Nat) (z0 : Nat → Nat → Int) (a1 : Option Addr) (len1 cap1 : Nat) (bf : Nat → Int) (n : Int) (w : World) (w0 : IsOps w a0 len0 z0) (w1 : IsNums .u8 w a1 len1 bf) (hb : ∀ i, i < len1 → 0 ≤ bf i ∧ bf i ≤ 255) (hc1 : len1 ≤ cap1) (hc2 : cap1 ≤ maxLen) (h0 : len0 ≤ 100) (h1 : len1 ≤ 300) (h8 : n ≤ 8)
    (hok : okN z0 n len0 = true) (m : Nat) (hm : GB bf len1 n m) :
    Calls Try.prog 6 #[.slice a0 len0 cap0, .slice a1 len1 cap1, .int .i64 n] w (fun e w' => e = .returned (.bool true) ∧ Below w.heap.size w w') := by
  have Z := Lib.hid w0
  have V := Lib.hid w1
  have HOK := Lib.hid hok
  have HM := Lib.hid hm
  have Hb := Lib.hid hb
  have HC2 := Lib.hid hc2
  have hd : decide ((100 : Int) < (len0 : Int)) = false := by simp; omega
  have hd1 : decide ((300 : Int) < (len1 : Int)) = false := by simp; omega
  have hn : decide ((8 : Int) < n) = false := by simp; omega
  have hL3 : (3 : Int) * (len0 : Int) = ((len0 * 3 : Nat) : Int) := by omega
  clear w0 w1 hok hm hb hc2
  go_enter Try.func6, Try.ntmps6
  go_wp2_with fail
  refine (alive_any _).mono ?_
  rintro e v1 ⟨rfl, g1⟩
  go_wp2_with fail
  clear hd hd1 hn
  go_loopw [7, 8] (fun ov iv wr => ∃ (k : Nat) (B : Bool), k ≤ len0 ∧ iv = .int .i64 k ∧ ov = .bool B ∧ Hid (B = okN z0 n k) ∧ Hid (w.grownBy wr none)) (fun _ iv _ => (len0 - intOf iv).toNat)
  case atStart => exact ⟨0, true, by omega, rfl, rfl, rfl, g1⟩
  case round =>
    obtain ⟨k, B, hk, rfl, rfl, K, G⟩ := hrel
    by_cases hlt : k < len0
    · obtain ⟨b9, off9, rfl, hb9, c0, c1, c2⟩ := (Z.out.grown G.out).at3 hlt
      have hlt' : (k : Int) < (len0 : Int) := by omega
      cases B with
      | false =>
        have HB := Lib.hid (show false = okN z0 n (k + 1) by rw [okN, ← K.out]; rfl)
        go_wp2
        go_roundw
        case rel => exact ⟨k + 1, false, by omega, by go_num, rfl, HB, G⟩
        case measure => simp [intOf]; omega
      | true =>
        have HO := Lib.hid (fun u => refok_any (z0 k 0) (z0 k 1) (z0 k 2) n u)
        have HB := Lib.hid (show okB (z0 k 0) (z0 k 1) (z0 k 2) n = okN z0 n (k + 1) by rw [okN, ← K.out]; rfl)
        generalize okB (z0 k 0) (z0 k 1) (z0 k 2) n = C at *
        generalize z0 k 0 = x0 at *
        generalize z0 k 1 = x1 at *
        generalize z0 k 2 = x2 at *
        go_wp2_with fail
        refine (HO.out _).mono ?_
        rintro e u ⟨rfl, g⟩
        have G2 := Lib.hid (gb_trans G.out g.out)
        clear g
        go_wp2
        go_roundw
        case rel => exact ⟨k + 1, C, by omega, by go_num, rfl, HB, G2⟩
        case measure => simp [intOf]; omega
    · obtain rfl : k = len0 := by omega
      obtain rfl : B = true := K.out.trans HOK.out
      clear g1
      go_wp2_with fail
      refine (put_any a0 k cap0 z0 _ (Z.out.grown G.out) (by omega)).mono ?_
      rintro e u1 ⟨b1, c1, rfl, R1, g1⟩
      have G1 := Lib.hid (gb_trans G.out g1.out)
      have N1 := Lib.hid (IsNums.of_own (k := .u8) R1.out)
      obtain ⟨q1, q2⟩ := row_cap R1.out
      have Q2 := Lib.hid q2
      clear g1 R1 G q2
      go_wp2_with fail
      refine (get_A b1 (k * 3) c1 (pb z0) n _ k N1.out (pb_range z0 _) q1 Q2.out (by omega) ⟨rfl, okN_pb HOK.out (by omega)⟩).mono ?_
      rintro e u2 ⟨b2, c2, rfl, R2, g2⟩
      have G2 := Lib.hid (gb_trans G1.out g2.out)
      have M2 := Lib.hid ((IsOps.of_own R2.out).congr (z' := z0) (fun i j hi hj => gz_pb (okN_at HOK.out hi) (by omega) j hj))
      clear g2 R2 N1 G1 Q2
      go_wp2_with fail
      refine (same_true b2 a0 k c2 cap0 z0 _ M2.out (Z.out.grown G2.out) (by unfold maxLen; omega)).mono ?_
      rintro e u3 ⟨rfl, g3⟩
      have G3 := Lib.hid (gb_trans G2.out g3.out)
      clear g3 G2 M2
      go_wp2_with fail
      refine (get_B a1 len1 cap1 bf n _ m (V.out.grown G3.out) Hb.out hc1 HC2.out (by omega) HM.out).mono ?_
      rintro e u4 ⟨rfl, g4⟩
      have G4 := Lib.hid (gb_trans G3.out g4.out)
      clear g4 G3
      go_wp2_with fail
      go_region
      go_wp2
      go_ret
      exact ⟨rfl, gb_below (gb_drew G4.out)⟩

set_option maxRecDepth 100000 in
set_option maxHeartbeats 1000000 in
theorem walk_tC (a0 : Option Addr) (len0 cap0 : Nat) (z0 : Nat → Nat → Int) (a1 : Option Addr) (len1 cap1 : Nat) (bf : Nat → Int) (n : Int) (w : World) (w0 : IsOps w a0 len0 z0) (w1 : IsNums .u8 w a1 len1 bf) (hb : ∀ i, i < len1 → 0 ≤ bf i ∧ bf i ≤ 255) (hc1 : len1 ≤ cap1) (hc2 : cap1 ≤ maxLen) (h0 : len0 ≤ 100) (h1 : len1 ≤ 300) (h8 : n ≤ 8)
    (hok : okN z0 n len0 = true) (m : Nat) (hm : GC bf len1 n m) :
    Calls Try.prog 6 #[.slice a0 len0 cap0, .slice a1 len1 cap1, .int .i64 n] w (fun e w' => e = .returned (.bool true) ∧ Below w.heap.size w w') := by
  have Z := Lib.hid w0
  have V := Lib.hid w1
  have HOK := Lib.hid hok
  have HM := Lib.hid hm
  have Hb := Lib.hid hb
  have HC2 := Lib.hid hc2
  have hd : decide ((100 : Int) < (len0 : Int)) = false := by simp; omega
  have hd1 : decide ((300 : Int) < (len1 : Int)) = false := by simp; omega
  have hn : decide ((8 : Int) < n) = false := by simp; omega
  have hL3 : (3 : Int) * (len0 : Int) = ((len0 * 3 : Nat) : Int) := by omega
  clear w0 w1 hok hm hb hc2
  go_enter Try.func6, Try.ntmps6
  go_wp2_with fail
  refine (alive_any _).mono ?_
  rintro e v1 ⟨rfl, g1⟩
  go_wp2_with fail
  clear hd hd1 hn
  go_loopw [7, 8] (fun ov iv wr => ∃ (k : Nat) (B : Bool), k ≤ len0 ∧ iv = .int .i64 k ∧ ov = .bool B ∧ Hid (B = okN z0 n k) ∧ Hid (w.grownBy wr none)) (fun _ iv _ => (len0 - intOf iv).toNat)
  case atStart => exact ⟨0, true, by omega, rfl, rfl, rfl, g1⟩
  case round =>
    obtain ⟨k, B, hk, rfl, rfl, K, G⟩ := hrel
    by_cases hlt : k < len0
    · obtain ⟨b9, off9, rfl, hb9, c0, c1, c2⟩ := (Z.out.grown G.out).at3 hlt
      have hlt' : (k : Int) < (len0 : Int) := by omega
      cases B with
      | false =>
        have HB := Lib.hid (show false = okN z0 n (k + 1) by rw [okN, ← K.out]; rfl)
        go_wp2
        go_roundw
        case rel => exact ⟨k + 1, false, by omega, by go_num, rfl, HB, G⟩
        case measure => simp [intOf]; omega
      | true =>
        have HO := Lib.hid (fun u => refok_any (z0 k 0) (z0 k 1) (z0 k 2) n u)
        have HB := Lib.hid (show okB (z0 k 0) (z0 k 1) (z0 k 2) n = okN z0 n (k + 1) by rw [okN, ← K.out]; rfl)
        generalize okB (z0 k 0) (z0 k 1) (z0 k 2) n = C at *
        generalize z0 k 0 = x0 at *
        generalize z0 k 1 = x1 at *
        generalize z0 k 2 = x2 at *
        go_wp2_with fail
        refine (HO.out _).mono ?_
        rintro e u ⟨rfl, g⟩
        have G2 := Lib.hid (gb_trans G.out g.out)
        clear g
        go_wp2
        go_roundw
        case rel => exact ⟨k + 1, C, by omega, by go_num, rfl, HB, G2⟩
        case measure => simp [intOf]; omega
    · obtain rfl : k = len0 := by omega
      obtain rfl : B = true := K.out.trans HOK.out
      clear g1
      go_wp2_with fail
      refine (put_any a0 k cap0 z0 _ (Z.out.grown G.out) (by omega)).mono ?_
      rintro e u1 ⟨b1, c1, rfl, R1, g1⟩
      have G1 := Lib.hid (gb_trans G.out g1.out)
      have N1 := Lib.hid (IsNums.of_own (k := .u8) R1.out)
      obtain ⟨q1, q2⟩ := row_cap R1.out
      have Q2 := Lib.hid q2
      clear g1 R1 G q2
      go_wp2_with fail
      refine (get_A b1 (k * 3) c1 (pb z0) n _ k N1.out (pb_range z0 _) q1 Q2.out (by omega) ⟨rfl, okN_pb HOK.out (by omega)⟩).mono ?_
      rintro e u2 ⟨b2, c2, rfl, R2, g2⟩
      have G2 := Lib.hid (gb_trans G1.out g2.out)
      have M2 := Lib.hid ((IsOps.of_own R2.out).congr (z' := z0) (fun i j hi hj => gz_pb (okN_at HOK.out hi) (by omega) j hj))
      clear g2 R2 N1 G1 Q2
      go_wp2_with fail
      refine (same_true b2 a0 k c2 cap0 z0 _ M2.out (Z.out.grown G2.out) (by unfold maxLen; omega)).mono ?_
      rintro e u3 ⟨rfl, g3⟩
      have G3 := Lib.hid (gb_trans G2.out g3.out)
      clear g3 G2 M2
      go_wp2_with fail
      refine (get_C a1 len1 cap1 bf n _ m (V.out.grown G3.out) Hb.out hc1 HC2.out (by omega) HM.out).mono ?_
      rintro e u4 ⟨rfl, g4⟩
      have G4 := Lib.hid (gb_trans G3.out g4.out)
      clear g4 G3
      go_wp2_with fail
      go_region
      go_wp2
      go_ret
      exact ⟨rfl, gb_below (gb_drew G4.out)⟩

set_option maxRecDepth 100000 in
set_option maxHeartbeats 1000000 in
theorem walk_fA (a0 : Option Addr) (len0 cap0 : Nat) (z0 : Nat → Nat → Int) (a1 : Option Addr) (len1 cap1 : Nat) (bf : Nat → Int) (n : Int) (w : World) (w0 : IsOps w a0 len0 z0) (w1 : IsNums .u8 w a1 len1 bf) (hb : ∀ i, i < len1 → 0 ≤ bf i ∧ bf i ≤ 255) (hc1 : len1 ≤ cap1) (hc2 : cap1 ≤ maxLen) (h0 : len0 ≤ 100) (h1 : len1 ≤ 300) (h8 : n ≤ 8)
    (hok : okN z0 n len0 = false) (m : Nat) (hm : GA bf len1 n m) :
    Calls Try.prog 6 #[.slice a0 len0 cap0, .slice a1 len1 cap1, .int .i64 n] w (fun e w' => e = .returned (.bool true) ∧ Below w.heap.size w w') := by
  have Z := Lib.hid w0
  have V := Lib.hid w1
  have HOK := Lib.hid hok
  have HM := Lib.hid hm
  have Hb := Lib.hid hb
  have HC2 := Lib.hid hc2
  have hd : decide ((100 : Int) < (len0 : Int)) = false := by simp; omega
  have hd1 : decide ((300 : Int) < (len1 : Int)) = false := by simp; omega
  have hn : decide ((8 : Int) < n) = false := by simp; omega
  have hL3 : (3 : Int) * (len0 : Int) = ((len0 * 3 : Nat) : Int) := by omega
  clear w0 w1 hok hm hb hc2
  go_enter Try.func6, Try.ntmps6
  go_wp2_with fail
  refine (alive_any _).mono ?_
  rintro e v1 ⟨rfl, g1⟩
  go_wp2_with fail
  clear hd hd1 hn
  go_loopw [7, 8] (fun ov iv wr => ∃ (k : Nat) (B : Bool), k ≤ len0 ∧ iv = .int .i64 k ∧ ov = .bool B ∧ Hid (B = okN z0 n k) ∧ Hid (w.grownBy wr none)) (fun _ iv _ => (len0 - intOf iv).toNat)
  case atStart => exact ⟨0, true, by omega, rfl, rfl, rfl, g1⟩
  case round =>
    obtain ⟨k, B, hk, rfl, rfl, K, G⟩ := hrel
    by_cases hlt : k < len0
    · obtain ⟨b9, off9, rfl, hb9, c0, c1, c2⟩ := (Z.out.grown G.out).at3 hlt
      have hlt' : (k : Int) < (len0 : Int) := by omega
      cases B with
      | false =>
        have HB := Lib.hid (show false = okN z0 n (k + 1) by rw [okN, ← K.out]; rfl)
        go_wp2
        go_roundw
        case rel => exact ⟨k + 1, false, by omega, by go_num, rfl, HB, G⟩
        case measure => simp [intOf]; omega
      | true =>
        have HO := Lib.hid (fun u => refok_any (z0 k 0) (z0 k 1) (z0 k 2) n u)
        have HB := Lib.hid (show okB (z0 k 0) (z0 k 1) (z0 k 2) n = okN z0 n (k + 1) by rw [okN, ← K.out]; rfl)
        generalize okB (z0 k 0) (z0 k 1) (z0 k 2) n = C at *
        generalize z0 k 0 = x0 at *
        generalize z0 k 1 = x1 at *
        generalize z0 k 2 = x2 at *
        go_wp2_with fail
        refine (HO.out _).mono ?_
        rintro e u ⟨rfl, g⟩
        have G2 := Lib.hid (gb_trans G.out g.out)
        clear g
        go_wp2
        go_roundw
        case rel => exact ⟨k + 1, C, by omega, by go_num, rfl, HB, G2⟩
        case measure => simp [intOf]; omega
    · obtain rfl : k = len0 := by omega
      obtain rfl : B = false := K.out.trans HOK.out
      clear g1
      go_wp2_with fail
      refine (put_any a0 k cap0 z0 _ (Z.out.grown G.out) (by omega)).mono ?_
      rintro e u1 ⟨b1, c1, rfl, R1, g1⟩
      have G1 := Lib.hid (gb_trans G.out g1.out)
      have N1 := Lib.hid (IsNums.of_own (k := .u8) R1.out)
      obtain ⟨q1, q2⟩ := row_cap R1.out
      have Q2 := Lib.hid q2
      clear g1 R1 G q2
      go_wp2_with fail
      refine (get_some b1 (k * 3) c1 (pb z0) n _ N1.out (pb_range z0 _) q1 Q2.out (by omega)).mono ?_
      rintro e u2 ⟨b2, m2, c2, p2, q2, rfl, g2⟩
      have G3 := Lib.hid (gb_trans G1.out g2.out)
      clear g2 N1 G1 Q2
      go_wp2_with fail
      refine (get_A a1 len1 cap1 bf n _ m (V.out.grown G3.out) Hb.out hc1 HC2.out (by omega) HM.out).mono ?_
      rintro e u4 ⟨b4, c4, rfl, R4, g4⟩
      have G4 := Lib.hid (gb_trans G3.out g4.out)
      have N4 := Lib.hid (IsOps.of_own R4.out)
      clear g4 G3 R4
      have HP := Lib.hid (fun u h => put_any b4 m c4 (gz bf) u h (by have := HM.out.1; omega))
      have hX : bs (pb (gz bf)) (m * 3) = bs bf len1 := by rw [HM.out.1]; exact bs_congr fun i hi => pb_gz Hb.out i (by rw [HM.out.1]; exact hi)
      have HX := Lib.hid hX
      clear hX
      have HV := Lib.hid (fun (u : World) (g : w.grownBy u none) => conv_str u a1 len1 cap1 bf (V.out.grown g))
      generalize bs bf len1 = X at *
      have hcv0 := HV.out u4 G4.out
      have hcv := HV.out u4.drew (gb_drew G4.out)
      go_wp2_with fail
      go_region_held_law (fun w' => (convert 38 9 (.slice a1 len1 cap1)).run Try.prog w' = .ok (.string X) w') (go_keep) ((go_at_call 23; refine (HP.out _ (N4.out.grown (by repeat (first | exact gb_refl _ _ | refine gb_drewN ?_ _ | refine gb_drew ?_ | refine gb_alloc ?_ _)))).mono ?_; rintro e u5 ⟨b5, c5, rfl, R5, g5⟩; have G5 := Lib.hid (show World.grownBy u4 _ none from gb_trans (by repeat (first | exact gb_refl _ _ | refine gb_drewN ?_ _ | refine gb_drew ?_ | refine gb_alloc ?_ _)) g5.out); have hcv := HV.out u5 (gb_trans G4.out G5.out); have hcp : (convert 38 9 (.slice b5 (m * 3) c5)).run Try.prog u5 = .ok (.string X) u5 := HX.out ▸ conv_str u5 b5 (m * 3) c5 _ (IsNums.of_own (k := .u8) R5.out)))
      go_wp2
      go_ret
      exact ⟨rfl, gb_below (gb_trans G4.out (by first | exact G5.out | exact gb_drew G5.out))⟩

set_option maxRecDepth 100000 in
set_option maxHeartbeats 1000000 in
theorem walk_fB (a0 : Option Addr) (len0 cap0 : Nat) (z0 : Nat → Nat → Int) (a1 : Option Addr) (len1 cap1 : Nat) (bf : Nat → Int) (n : Int) (w : World) (w0 : IsOps w a0 len0 z0) (w1 : IsNums .u8 w a1 len1 bf) (hb : ∀ i, i < len1 → 0 ≤ bf i ∧ bf i ≤ 255) (hc1 : len1 ≤ cap1) (hc2 : cap1 ≤ maxLen) (h0 : len0 ≤ 100) (h1 : len1 ≤ 300) (h8 : n ≤ 8)
    (hok : okN z0 n len0 = false) (m : Nat) (hm : GB bf len1 n m) :
    Calls Try.prog 6 #[.slice a0 len0 cap0, .slice a1 len1 cap1, .int .i64 n] w (fun e w' => e = .returned (.bool true) ∧ Below w.heap.size w w') := by
  have Z := Lib.hid w0
  have V := Lib.hid w1
  have HOK := Lib.hid hok
  have HM := Lib.hid hm
  have Hb := Lib.hid hb
  have HC2 := Lib.hid hc2
  have hd : decide ((100 : Int) < (len0 : Int)) = false := by simp; omega
  have hd1 : decide ((300 : Int) < (len1 : Int)) = false := by simp; omega
  have hn : decide ((8 : Int) < n) = false := by simp; omega
  have hL3 : (3 : Int) * (len0 : Int) = ((len0 * 3 : Nat) : Int) := by omega
  clear w0 w1 hok hm hb hc2
  go_enter Try.func6, Try.ntmps6
  go_wp2_with fail
  refine (alive_any _).mono ?_
  rintro e v1 ⟨rfl, g1⟩
  go_wp2_with fail
  clear hd hd1 hn
  go_loopw [7, 8] (fun ov iv wr => ∃ (k : Nat) (B : Bool), k ≤ len0 ∧ iv = .int .i64 k ∧ ov = .bool B ∧ Hid (B = okN z0 n k) ∧ Hid (w.grownBy wr none)) (fun _ iv _ => (len0 - intOf iv).toNat)
  case atStart => exact ⟨0, true, by omega, rfl, rfl, rfl, g1⟩
  case round =>
    obtain ⟨k, B, hk, rfl, rfl, K, G⟩ := hrel
    by_cases hlt : k < len0
    · obtain ⟨b9, off9, rfl, hb9, c0, c1, c2⟩ := (Z.out.grown G.out).at3 hlt
      have hlt' : (k : Int) < (len0 : Int) := by omega
      cases B with
      | false =>
        have HB := Lib.hid (show false = okN z0 n (k + 1) by rw [okN, ← K.out]; rfl)
        go_wp2
        go_roundw
        case rel => exact ⟨k + 1, false, by omega, by go_num, rfl, HB, G⟩
        case measure => simp [intOf]; omega
      | true =>
        have HO := Lib.hid (fun u => refok_any (z0 k 0) (z0 k 1) (z0 k 2) n u)
        have HB := Lib.hid (show okB (z0 k 0) (z0 k 1) (z0 k 2) n = okN z0 n (k + 1) by rw [okN, ← K.out]; rfl)
        generalize okB (z0 k 0) (z0 k 1) (z0 k 2) n = C at *
        generalize z0 k 0 = x0 at *
        generalize z0 k 1 = x1 at *
        generalize z0 k 2 = x2 at *
        go_wp2_with fail
        refine (HO.out _).mono ?_
        rintro e u ⟨rfl, g⟩
        have G2 := Lib.hid (gb_trans G.out g.out)
        clear g
        go_wp2
        go_roundw
        case rel => exact ⟨k + 1, C, by omega, by go_num, rfl, HB, G2⟩
        case measure => simp [intOf]; omega
    · obtain rfl : k = len0 := by omega
      obtain rfl : B = false := K.out.trans HOK.out
      clear g1
      go_wp2_with fail
      refine (put_any a0 k cap0 z0 _ (Z.out.grown G.out) (by omega)).mono ?_
      rintro e u1 ⟨b1, c1, rfl, R1, g1⟩
      have G1 := Lib.hid (gb_trans G.out g1.out)
      have N1 := Lib.hid (IsNums.of_own (k := .u8) R1.out)
      obtain ⟨q1, q2⟩ := row_cap R1.out
      have Q2 := Lib.hid q2
      clear g1 R1 G q2
      go_wp2_with fail
      refine (get_some b1 (k * 3) c1 (pb z0) n _ N1.out (pb_range z0 _) q1 Q2.out (by omega)).mono ?_
      rintro e u2 ⟨b2, m2, c2, p2, q2, rfl, g2⟩
      have G3 := Lib.hid (gb_trans G1.out g2.out)
      clear g2 N1 G1 Q2
      go_wp2_with fail
      refine (get_B a1 len1 cap1 bf n _ m (V.out.grown G3.out) Hb.out hc1 HC2.out (by omega) HM.out).mono ?_
      rintro e u4 ⟨rfl, g4⟩
      have G4 := Lib.hid (gb_trans G3.out g4.out)
      clear g4 G3
      go_wp2_with fail
      go_region
      go_wp2
      go_ret
      exact ⟨rfl, gb_below (gb_drew G4.out)⟩

set_option maxRecDepth 100000 in
set_option maxHeartbeats 1000000 in
theorem walk_fC (a0 : Option Addr) (len0 cap0 : Nat) (z0 : Nat → Nat → Int) (a1 : Option Addr) (len1 cap1 : Nat) (bf : Nat → Int) (n : Int) (w : World) (w0 : IsOps w a0 len0 z0) (w1 : IsNums .u8 w a1 len1 bf) (hb : ∀ i, i < len1 → 0 ≤ bf i ∧ bf i ≤ 255) (hc1 : len1 ≤ cap1) (hc2 : cap1 ≤ maxLen) (h0 : len0 ≤ 100) (h1 : len1 ≤ 300) (h8 : n ≤ 8)
    (hok : okN z0 n len0 = false) (m : Nat) (hm : GC bf len1 n m) :
    Calls Try.prog 6 #[.slice a0 len0 cap0, .slice a1 len1 cap1, .int .i64 n] w (fun e w' => e = .returned (.bool true) ∧ Below w.heap.size w w') := by
  have Z := Lib.hid w0
  have V := Lib.hid w1
  have HOK := Lib.hid hok
  have HM := Lib.hid hm
  have Hb := Lib.hid hb
  have HC2 := Lib.hid hc2
  have hd : decide ((100 : Int) < (len0 : Int)) = false := by simp; omega
  have hd1 : decide ((300 : Int) < (len1 : Int)) = false := by simp; omega
  have hn : decide ((8 : Int) < n) = false := by simp; omega
  have hL3 : (3 : Int) * (len0 : Int) = ((len0 * 3 : Nat) : Int) := by omega
  clear w0 w1 hok hm hb hc2
  go_enter Try.func6, Try.ntmps6
  go_wp2_with fail
  refine (alive_any _).mono ?_
  rintro e v1 ⟨rfl, g1⟩
  go_wp2_with fail
  clear hd hd1 hn
  go_loopw [7, 8] (fun ov iv wr => ∃ (k : Nat) (B : Bool), k ≤ len0 ∧ iv = .int .i64 k ∧ ov = .bool B ∧ Hid (B = okN z0 n k) ∧ Hid (w.grownBy wr none)) (fun _ iv _ => (len0 - intOf iv).toNat)
  case atStart => exact ⟨0, true, by omega, rfl, rfl, rfl, g1⟩
  case round =>
    obtain ⟨k, B, hk, rfl, rfl, K, G⟩ := hrel
    by_cases hlt : k < len0
    · obtain ⟨b9, off9, rfl, hb9, c0, c1, c2⟩ := (Z.out.grown G.out).at3 hlt
      have hlt' : (k : Int) < (len0 : Int) := by omega
      cases B with
      | false =>
        have HB := Lib.hid (show false = okN z0 n (k + 1) by rw [okN, ← K.out]; rfl)
        go_wp2
        go_roundw
        case rel => exact ⟨k + 1, false, by omega, by go_num, rfl, HB, G⟩
        case measure => simp [intOf]; omega
      | true =>
        have HO := Lib.hid (fun u => refok_any (z0 k 0) (z0 k 1) (z0 k 2) n u)
        have HB := Lib.hid (show okB (z0 k 0) (z0 k 1) (z0 k 2) n = okN z0 n (k + 1) by rw [okN, ← K.out]; rfl)
        generalize okB (z0 k 0) (z0 k 1) (z0 k 2) n = C at *
        generalize z0 k 0 = x0 at *
        generalize z0 k 1 = x1 at *
        generalize z0 k 2 = x2 at *
        go_wp2_with fail
        refine (HO.out _).mono ?_
        rintro e u ⟨rfl, g⟩
        have G2 := Lib.hid (gb_trans G.out g.out)
        clear g
        go_wp2
        go_roundw
        case rel => exact ⟨k + 1, C, by omega, by go_num, rfl, HB, G2⟩
        case measure => simp [intOf]; omega
    · obtain rfl : k = len0 := by omega
      obtain rfl : B = false := K.out.trans HOK.out
      clear g1
      go_wp2_with fail
      refine (put_any a0 k cap0 z0 _ (Z.out.grown G.out) (by omega)).mono ?_
      rintro e u1 ⟨b1, c1, rfl, R1, g1⟩
      have G1 := Lib.hid (gb_trans G.out g1.out)
      have N1 := Lib.hid (IsNums.of_own (k := .u8) R1.out)
      obtain ⟨q1, q2⟩ := row_cap R1.out
      have Q2 := Lib.hid q2
      clear g1 R1 G q2
      go_wp2_with fail
      refine (get_some b1 (k * 3) c1 (pb z0) n _ N1.out (pb_range z0 _) q1 Q2.out (by omega)).mono ?_
      rintro e u2 ⟨b2, m2, c2, p2, q2, rfl, g2⟩
      have G3 := Lib.hid (gb_trans G1.out g2.out)
      clear g2 N1 G1 Q2
      go_wp2_with fail
      refine (get_C a1 len1 cap1 bf n _ m (V.out.grown G3.out) Hb.out hc1 HC2.out (by omega) HM.out).mono ?_
      rintro e u4 ⟨rfl, g4⟩
      have G4 := Lib.hid (gb_trans G3.out g4.out)
      clear g4 G3
      go_wp2_with fail
      go_region
      go_wp2
      go_ret
      exact ⟨rfl, gb_below (gb_drew G4.out)⟩

theorem walk (a0 : Option Addr) (len0 cap0 : Nat) (z0 : Nat → Nat → Int) (a1 : Option Addr) (len1 cap1 : Nat) (z1 : Nat → Int) (a2 : Int) (w : World) (w0 : IsInts 3 w a0 len0 cap0 z0) (w1 : IsRow .u8 w a1 len1 cap1 z1) (w2 : (Lit.int .i64 a2).wf = true) :
    Calls Try.prog 6 #[.slice a0 len0 cap0, .slice a1 len1 cap1, .int .i64 a2] w (fun e w' => e = .returned (.bool true) ∧ Below w.heap.size w w') := by
  by_cases h : 100 < len0 ∨ 300 < len1 ∨ 8 < a2
  · exact walk_out a0 len0 cap0 a1 len1 cap1 a2 w h
  · have x0 := IsOps.of_ints w0
    have x1 := IsNums.of_row w1
    have hb := bytes_of w1
    cases hok : okN z0 a2 len0 with
    | true =>
      rcases get_cases z1 len1 a2 with ⟨m, hm⟩ | ⟨m, hm⟩ | ⟨m, hm⟩
      · exact walk_tA a0 len0 cap0 z0 a1 len1 cap1 z1 a2 w x0 x1 hb w1.1 w1.2.1 (by omega) (by omega) (by omega) hok m hm
      · exact walk_tB a0 len0 cap0 z0 a1 len1 cap1 z1 a2 w x0 x1 hb w1.1 w1.2.1 (by omega) (by omega) (by omega) hok m hm
      · exact walk_tC a0 len0 cap0 z0 a1 len1 cap1 z1 a2 w x0 x1 hb w1.1 w1.2.1 (by omega) (by omega) (by omega) hok m hm
    | false =>
      rcases get_cases z1 len1 a2 with ⟨m, hm⟩ | ⟨m, hm⟩ | ⟨m, hm⟩
      · exact walk_fA a0 len0 cap0 z0 a1 len1 cap1 z1 a2 w x0 x1 hb w1.1 w1.2.1 (by omega) (by omega) (by omega) hok m hm
      · exact walk_fB a0 len0 cap0 z0 a1 len1 cap1 z1 a2 w x0 x1 hb w1.1 w1.2.1 (by omega) (by omega) (by omega) hok m hm
      · exact walk_fC a0 len0 cap0 z0 a1 len1 cap1 z1 a2 w x0 x1 hb w1.1 w1.2.1 (by omega) (by omega) (by omega) hok m hm

theorem own : ownKnob Try.prog.godebug = none := by kernel_rfl
theorem laidOut : laidOutB Try.prog = true := by kernel_rfl

/-! ### THE ROW's STEP, as the guide has it -/
set_option maxRecDepth 100000 in
theorem lifted (os : Os) (started : os.Started) (H : Type) (enc : TypeId × Value → H) :
    ReturnsInHanded {} Try.checked os 6 .any (Rows.langBackSpec.pre6 enc Try.prog Try.f6 Rows.langBackRow.domain false) (Rows.langBackSpec.post enc Try.prog Try.f6 false true false false) := by
  refine returnsInHanded_of_change (C := Try.checked) own started (by kernel_rfl) Try.func6
    (ChangeSpec.witness6 (enc := enc) (C := Try.checked) false ⟨#[], #[.slice none 0 0, .slice none 0 0, .int .i64 0], []⟩ 8 (by kernel_rfl) (by kernel_rfl) (by kernel_rfl) (by kernel_rfl)) ?_
  intro W base args ds gs before hval0 hW hcnd _
  have hval : ∀ (j : Nat) t v, Try.f6.params[j]? = some t → args[j]? = some v → Value.okWide Try.prog W .any base t v := hval0
  have hW' := hW
  obtain ⟨p, q, hA0, hV, rfl, hfz, hnd⟩ := hW
  have hA : DataW.TrodAll enc Try.prog W 0 (fun _ => true) true Try.f6.params.toList args.toList ds p := hA0
  rw [Try.params6] at hA hval
  obtain ⟨v0, vs0, d0, ds0, p0, q0, hargs, rfl, rfl, h0, r0⟩ := trodAll_cons hA
  obtain ⟨v1, vs1, d1, ds1, p1, q1, rfl, rfl, rfl, h1, r1⟩ := trodAll_cons r0
  obtain ⟨v2, vs2, d2, ds2, p2, q2, rfl, rfl, rfl, h2, r2⟩ := trodAll_cons r1
  obtain ⟨rfl, rfl, rfl⟩ := trodAll_nil r2
  obtain rfl : args = #[v0, v1, v2] := by cases args; simp_all
  obtain ⟨rfl, rfl⟩ := trodVars_none hV
  obtain ⟨a0, len0, cap0, rfl⟩ := okWide_slice Try.underlying22 (hval 0 22 v0 rfl rfl)
  have k0 := h0
  have lt0 : ∀ x ∈ p0, x.block < W.heap.size := by obtain ⟨m, hm⟩ := k0; exact DataW.trod_lt m _ _ _ hm
  obtain ⟨z0, w0⟩ : ∃ z, IsInts 3 W a0 len0 cap0 z := by
    obtain ⟨fuel, hf⟩ := h0
    exact isMixed_of Try.underlying22 Try.underlying24 Try.underlying3 Try.underlying2 (by kernel_rfl) (by kernel_rfl) (by kernel_rfl) (by decide) (by decide) hf
  obtain ⟨a1, len1, cap1, rfl⟩ := okWide_slice Try.underlying38 (hval 1 38 v1 rfl rfl)
  have k1 := h1
  have lt1 : ∀ x ∈ p1, x.block < W.heap.size := by obtain ⟨m, hm⟩ := k1; exact DataW.trod_lt m _ _ _ hm
  obtain ⟨z1, w1⟩ : ∃ z, IsRow .u8 W a1 len1 cap1 z := by
    obtain ⟨fuel, hf⟩ := h1
    exact isRow_of Try.underlying38 Try.underlying5 (by kernel_rfl) hf
  obtain ⟨a2, rfl, rfl, rfl, w2⟩ := open_int Try.underlying3 (hval 2 3 v2 rfl rfl) h2
  clear hA0 hval0
  refine (walk a0 len0 cap0 z0 a1 len1 cap1 z1 a2 W w0 w1 w2).mono fun e W' ⟨he, bel⟩ => ?_
  subst he
  exact ⟨_, rfl, _, _, _, [], _, [], hW', trodAll_mk1 (shut_bool Try.underlying4 _), (trodAll_cons_mk (Below.trod laidOut (by kernel_rfl) (of_decide_eq_true (by kernel_rfl)) k0 bel lt0) (trodAll_cons_mk (Below.trod laidOut (by kernel_rfl) (of_decide_eq_true (by kernel_rfl)) k1 bel lt1) (trodAll_cons_mk (shut_int Try.underlying3 w2) trodAll_mk0))), rfl, bel.frame _, fun h => by cases h⟩

theorem over : Rows.langBackRow.holds Try.pinned (OpenSpec.ofChange Rows.langBackSpec) :=
  OpenClaim.holds_of_wide 6 Try.f6 rfl rfl rfl rfl rfl rfl rfl ⟨rfl, rfl, rfl, rfl, rfl⟩ rfl rfl rfl rfl rfl (by kernel_rfl) Try.func6 (by kernel_rfl)
    (of_decide_eq_true (by kernel_rfl)) (by unfold Func.isWrapper; first | (rw [if_pos (by decide +kernel)]; kernel_rfl) | (rw [if_neg (by decide +kernel)]; exact ⟨rfl, rfl⟩))
    (fun os started H enc _ => lifted os started H enc)

theorem proved : Rows.LangBackSaid := over
#print axioms proved
end Go.Proofs.Ytjajhkgbhckdeaa.langBack
