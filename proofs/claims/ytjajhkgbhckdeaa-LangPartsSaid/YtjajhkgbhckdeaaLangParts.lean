/-
  LangParts: the bytes of two rows of operations stand one behind the other, and are got as both rows, and opens are counted together; for any two rows, and any number of objects from 1 to 8.
  Conditions: none (of a row of more than 50 operations the law says nothing by itself).
-/
import Derived.Test.YtjajhkgbhckdeaaRows
import Derived.Test.YtjajhkgbhckdeaaOpen
import Derived.Test.YtjajhkgbhckdeaaAliveL
import Derived.Test.YtjajhkgbhckdeaaCat
import Derived.Deep.RegionHeldLaw
namespace Go.Proofs.Ytjajhkgbhckdeaa.langParts
open Go.ChangeShapes Go.WideShapes Go.ChangeAt Go.RowKit Go.Proofs.Ytjajhkgbhckdeaa.base Go.Proofs.Ytjajhkgbhckdeaa.lg
set_option linter.unusedVariables false

set_option maxRecDepth 100000 in
theorem walk_out (a0 : Option Addr) (la ca : Nat) (a1 : Option Addr) (lb cb : Nat) (a2 : Int) (w : World) (l2 : 0 ≤ a2) (u2 : a2 ≤ 255) (h : 50 < la ∨ 50 < lb) :
    Calls Try.prog 9 #[.slice a0 la ca, .slice a1 lb cb, .int .u8 a2] w (fun e w' => e = .returned (.bool true) ∧ Below w.heap.size w w') := by
  have hcv : IntKind.i64.wrap a2 = a2 := IntWalk.i64_in _ (by omega)
  by_cases h0 : 50 < la
  · have hd : decide ((50 : Int) < (la : Int)) = true := by simp; omega
    clear h
    go_enter Try.func9, Try.ntmps9
    go_wp2_with fail
    refine (alive_any _).mono ?_
    rintro e v1 ⟨rfl, g1⟩
    go_wp2
    go_ret
    exact ⟨rfl, gb_below g1.out⟩
  · have hd : decide ((50 : Int) < (la : Int)) = false := by simp; omega
    have hd1 : decide ((50 : Int) < (lb : Int)) = true := by simp; omega
    clear h
    go_enter Try.func9, Try.ntmps9
    go_wp2_with fail
    refine (alive_any _).mono ?_
    rintro e v1 ⟨rfl, g1⟩
    go_wp2
    go_ret
    exact ⟨rfl, gb_below g1.out⟩

set_option maxRecDepth 100000 in
set_option maxHeartbeats 4000000 in
theorem walk_tt (a0 : Option Addr) (la ca : Nat) (za : Nat → Nat → Int) (a1 : Option Addr) (lb cb : Nat) (zb : Nat → Nat → Int) (a2 N : Int) (w : World) (w0 : IsOps w a0 la za) (w1 : IsOps w a1 lb zb) (l2 : 0 ≤ a2) (u2 : a2 ≤ 255) (hN : 1 + a2 % 8 = N) (h0 : la ≤ 50) (h1 : lb ≤ 50) (ha : okN (gz (pb za)) N la = true) (hb : okN (gz (pb zb)) N lb = true) :
    Calls Try.prog 9 #[.slice a0 la ca, .slice a1 lb cb, .int .u8 a2] w (fun e w' => e = .returned (.bool true) ∧ Below w.heap.size w w') := by
  have ZA := Lib.hid w0
  have ZB := Lib.hid w1
  have HA : Hid (GA (pb za) (la * 3) N la) := ⟨rfl, ha⟩
  have HB : Hid (GA (pb zb) (lb * 3) N lb) := ⟨rfl, hb⟩
  have HC := Lib.hid (cat_A ha hb)
  clear ha hb
  have hd : decide ((50 : Int) < (la : Int)) = false := by simp; omega
  have hd1 : decide ((50 : Int) < (lb : Int)) = false := by simp; omega
  have hcv : IntKind.i64.wrap a2 = a2 := IntWalk.i64_in _ (by omega)
  clear w0 w1
  go_enter Try.func9, Try.ntmps9
  go_wp2_with fail
  refine (alive_any _).mono ?_
  rintro e v1 ⟨rfl, g1⟩
  go_upto_region 6 with fail
  clear hN hcv hd hd1 l2 u2
  have OE : Hid ((v1.alloc (.cells #[] 24)).ownsRow w.heap.size 24 3 (.slice (some ⟨v1.heap.size, 0, none⟩) 0 0) 0 []) := ownsRow_drop (ownsRow_empty v1 _ 3) g1.out.size
  have GE := Lib.hid (gb_alloc g1.out (.cells #[] 24))
  have SA := Lib.hid (ZA.out.grown GE.out).src
  clear g1
  go_wp2_with (first | (at_builtin; refine appendOp _ rfl (.tmp 35) (.tmp 36) rfl w.heap.size _ la (ops za la) rfl O2.out a1 lb cb (ops zb lb) rfl (ops_length zb lb) SB.out (one_ops zb lb) (by omega) G2.out.size ?_; intro b3 c3 v3 ho3 hg3 hv3; have M3 := Lib.hid (IsOps.of_own (by rw [ops_cat]; exact ho3 : v3.ownsRow w.heap.size 24 3 (.slice b3 (la + lb) c3) (la + lb) (ops (cat za la zb) (la + lb)))); have G3 := Lib.hid (gb_overO G2.out hg3 (fun i hi => (O2.out.lt i hi).1)); clear ho3 hg3 hv3) | (at_builtin; refine appendOp _ rfl (.tmp 33) (.tmp 34) rfl w.heap.size _ 0 [] rfl OE.out a0 la ca (ops za la) rfl (ops_length za la) SA.out (one_ops za la) (by omega) GE.out.size ?_; simp only [Nat.zero_add, List.nil_append]; intro b2 c2 v2 ho2 hg2 hv2; have O2 := Lib.hid ho2; have G2 := Lib.hid (gb_overO GE.out hg2 (fun i hi => (OE.out.lt i hi).1)); have SB := Lib.hid (ZB.out.grown G2.out).src; clear ho2 hg2 hv2))
  clear OE GE SA O2 SB G2
  refine (put_any b3 (la + lb) c3 (cat za la zb) v3 M3.out (by omega)).mono ?_
  rintro e v4 ⟨b4, c4, rfl, R4, g4⟩
  have HAB := Lib.hid (bs_cat za la zb lb)
  generalize hLX : (la + lb) * 3 = LX at *
  have HLX := Lib.hid hLX
  have hLX2 : LX ≤ 300 := by omega
  clear hLX
  have G4 := Lib.hid (gb_trans G3.out g4.out)
  have M4 := Lib.hid (M3.out.grown g4.out)
  have X4 := Lib.hid (IsNums.of_own (k := .u8) R4.out)
  obtain ⟨q1, q2⟩ := row_cap R4.out
  have Q2 := Lib.hid q2
  clear g4 R4 M3 G3 q2
  -- the bytes as strings
  have HX := Lib.hid (fun (u : World) (g : v4.grownBy u none) => conv_str u b4 LX c4 _ (X4.out.grown g))
  have HSa := Lib.hid (bs_size (pb za) (la * 3))
  have HSb := Lib.hid (bs_size (pb zb) (lb * 3))
  have hadd : ∀ u : World, (Op.stringOp .add (bs (pb za) (la * 3)) (bs (pb zb) (lb * 3))).run Try.prog u = .ok (.string (bs (pb (cat za la zb)) LX)) u := fun u => by rw [HAB.out]; exact run_string_add_sum u _ _ (by rw [HSa.out, HSb.out]; omega)
  have HPa := Lib.hid (fun (u : World) (g : w.grownBy u none) => put_any a0 la ca za u (ZA.out.grown g) (by omega))
  have HPb := Lib.hid (fun (u : World) (g : w.grownBy u none) => put_any a1 lb cb zb u (ZB.out.grown g) (by omega))
  have HOx := Lib.hid (fun (u : World) (g : v4.grownBy u none) => opens_any b3 (la + lb) c3 (cat za la zb) u (M4.out.grown g) (by unfold maxLen; omega))
  have HOa := Lib.hid (fun (u : World) (g : w.grownBy u none) => opens_any a0 la ca za u (ZA.out.grown g) (by unfold maxLen; omega))
  have HOb := Lib.hid (fun (u : World) (g : w.grownBy u none) => opens_any a1 lb cb zb u (ZB.out.grown g) (by unfold maxLen; omega))
  have hla := opens_le za la
  have hlb := opens_le zb lb
  have hoc := opens_cat za la zb lb
  rw [hoc] at HOx
  have hw1 : IntKind.i64.wrap ((opens za la : Int) + (opens zb lb : Int)) = (opens za la : Int) + (opens zb lb : Int) := IntWalk.i64_in _ (by omega)
  clear hoc
  generalize opens za la = pa at *
  generalize opens zb lb = pq at *
  rw [Int.natCast_add] at HOx
  clear HAB HSa HSb
  generalize bs (pb (cat za la zb)) LX = X at *
  have HAs := Lib.hid (fun (u : World) (b : Option Addr) (c : Nat) (h : IsNums .u8 u b (la * 3) (pb za)) => conv_str u b (la * 3) c _ h)
  have HBs := Lib.hid (fun (u : World) (b : Option Addr) (c : Nat) (h : IsNums .u8 u b (lb * 3) (pb zb)) => conv_str u b (lb * 3) c _ h)
  generalize bs (pb za) (la * 3) = A at *
  generalize bs (pb zb) (lb * 3) = B at *
  have hcx0 := HX.out v4 (gb_refl _ _)
  have hcx := HX.out v4.drew (gb_drew (gb_refl _ _))
  go_upto_region 8 with fail
  have V4 : Hid (v4.grownBy v4.drew none) := gb_drew (gb_refl _ _)
  go_cut [59] (fun tv wx => tv = .bool false ∧ Hid (w.grownBy wx none) ∧ Hid (v4.grownBy wx none))
  case first =>
    go_region_held_law (fun w' => (convert 38 9 (.slice b4 LX c4)).run Try.prog w' = .ok (.string X) w') (go_keep) (first | (go_at_call 16; refine (HOb.out _ G8.out).mono ?_; rintro e u9 ⟨rfl, g9⟩; have G9 := Lib.hid (gb_trans G8.out g9.out); have K9 := Lib.hid (gb_trans K8.out g9.out); have hcx := HX.out u9 K9.out) | (go_at_call 16; refine (HOa.out _ G7.out).mono ?_; rintro e u8 ⟨rfl, g8⟩; have G8 := Lib.hid (gb_trans G7.out g8.out); have K8 := Lib.hid (gb_trans K7.out g8.out); have hcx := HX.out u8 K8.out) | (go_at_call 16; refine (HOx.out _ K6.out).mono ?_; rintro e u7 ⟨rfl, g7⟩; have G7 := Lib.hid (gb_trans G6.out g7.out); have K7 := Lib.hid (gb_trans K6.out g7.out); have hcx := HX.out u7 K7.out) | (go_at_call 23; refine (HPb.out _ G5.out).mono ?_; rintro e u6 ⟨b6, c6, rfl, R6, g6⟩; have G6 := Lib.hid (gb_trans G5.out g6.out); have K6 := Lib.hid (gb_trans K5.out g6.out); have hcx := HX.out u6 K6.out; have hca := HAs.out u6 b5 c5 (N5.out.grown g6.out); have hcb := HBs.out u6 b6 c6 (IsNums.of_own (k := .u8) R6.out)) | (go_at_call 23; refine (HPa.out _ (gb_drew G4.out)).mono ?_; rintro e u5 ⟨b5, c5, rfl, R5, g5⟩; have G5 := Lib.hid (gb_trans (gb_drew G4.out) g5.out); have K5 := Lib.hid (gb_trans V4.out g5.out); have hcx := HX.out u5 K5.out; have N5 := Lib.hid (IsNums.of_own (k := .u8) R5.out); have hca := HAs.out u5 b5 c5 N5.out))
    all_goals go_wp2
    all_goals go_meet
    all_goals exact ⟨rfl, G9, K9⟩
  case rest =>
  obtain ⟨rfl, G9, K9⟩ := hcut
  clear hcx hcx0 hadd hw1
  go_wp2_with fail
  refine (HPa.out _ G9.out).mono ?_
  rintro e u10 ⟨b10, c10, rfl, R10, g10⟩
  have G10 := Lib.hid (gb_trans G9.out g10.out)
  have K10 := Lib.hid (gb_trans K9.out g10.out)
  have N10 := Lib.hid (IsNums.of_own (k := .u8) R10.out)
  obtain ⟨p1, p2⟩ := row_cap R10.out
  have P2 := Lib.hid p2
  clear g10 R10 G9 K9 p2
  go_wp2_with fail
  refine (get_A b10 (la * 3) c10 (pb za) N _ la N10.out (pb_range za _) p1 P2.out (by omega) HA.out).mono ?_
  rintro e u11 ⟨b11, c11, rfl, R11, g11⟩
  have G11 := Lib.hid (gb_trans G10.out g11.out)
  have K11 := Lib.hid (gb_trans K10.out g11.out)
  have HW := Lib.hid (show w.heap.size ≤ u10.heap.size from G10.out.size)
  have HB11 := Lib.hid (show u10.heap.size ≤ u11.heap.size from g11.out.size)
  clear g11 N10 G10 K10 P2 p1
  go_wp2_with fail
  refine (HPb.out _ G11.out).mono ?_
  rintro e u12 ⟨b12, c12, rfl, R12, g12⟩
  have G12 := Lib.hid (gb_trans G11.out g12.out)
  have K12 := Lib.hid (gb_trans K11.out g12.out)
  have N12 := Lib.hid (IsNums.of_own (k := .u8) R12.out)
  have g12 := Lib.hid g12.out
  obtain ⟨p1, p2⟩ := row_cap R12.out
  have P2 := Lib.hid p2
  clear R12 G11 K11 p2
  go_wp2_with fail
  refine (get_A b12 (lb * 3) c12 (pb zb) N _ lb N12.out (pb_range zb _) p1 P2.out (by omega) HB.out).mono ?_
  rintro e u13 ⟨b13, c13, rfl, R13, g13⟩
  have G13 := Lib.hid (gb_trans G12.out g13.out)
  have K13 := Lib.hid (gb_trans K12.out g13.out)
  have L13 := Lib.hid (gb_trans g12.out g13.out)
  have M13 := Lib.hid (IsOps.of_own R13.out)
  clear g13 R13 N12 G12 K12 P2 p1 g12
  go_wp2_with fail
  refine (get_A b4 LX c4 (pb (cat za la zb)) N _ (la + lb) (X4.out.grown K13.out) (pb_range _ _) q1 Q2.out (by omega) HC.out).mono ?_
  rintro e u14 ⟨b14, c14, rfl, R14, g14⟩
  have G14 := Lib.hid (gb_trans G13.out g14.out)
  have R14ne := Lib.hid (fun (b off : Nat) (e : b14 = some ⟨b, off, none⟩) (e2 : some b = (Value.slice b11 la c11).ownBlock) => (Nat.lt_irrefl _ (Nat.lt_of_lt_of_le (R11.out.lt b e2.symm).2 (Nat.le_trans L13.out.size (R14.out.lt b (by rw [e]; rfl)).1)) : False))
  have M14 := Lib.hid ((IsOps.of_own R14.out).congr (fun i j _ hj => gz_cat za la zb i j hj))
  have S14 := Lib.hid (M13.out.grown g14.out).src
  have LL := Lib.hid (gb_trans L13.out g14.out)
  have O14 := Lib.hid (ownsRow_keep (w' := u14) R11.out (fun b e => LL.out.block b (R11.out.lt b e).2 (by simp)))
  have hsz := Lib.hid (show u10.heap.size ≤ u14.heap.size from Nat.le_trans HB11.out LL.out.size)
  clear R14 M13 G13 K13 R11
  go_wp2_with (at_builtin; go_loud (refine appendOpG _ (by first | rfl | simp [Region.wanted, yielded, go_sem]) (.tmp 119) (.tmp 120) rfl u10.heap.size _ la (ops (gz (pb za)) la) rfl O14.out b13 lb c13 (ops (gz (pb zb)) lb) rfl (ops_length _ _) S14.out (one_ops _ _) (by omega) hsz.out ?_); intro b15 c15 v15 ho15 hg15 hv15; clear hv15)
  have M15 := Lib.hid (IsOps.of_own (by rw [ops_cat]; exact ho15 : v15.ownsRow u10.heap.size 24 3 (.slice b15 (la + lb) c15) (la + lb) (ops (cat (gz (pb za)) la (gz (pb zb))) (la + lb))))
  have hgl := Lib.hid (show u14.heap.size ≤ v15.heap.size from hg15.size)
  have M14b := Lib.hid (M14.out.keep (w' := v15) (fun b off e hb => hg15.block b hb (fun e2 => R14ne.out b off e e2)) hgl.out)
  refine (same_true b14 b15 (la + lb) c14 c15 _ _ M14b.out M15.out (by unfold maxLen; omega)).mono ?_
  rintro e u16 ⟨rfl, g16⟩
  have G16 := Lib.hid (gb_trans (gb_overO G14.out hg15 (fun i hi => Nat.le_trans HW.out (O14.out.lt i hi).1)) g16.out)
  go_wp2
  go_ret
  exact ⟨rfl, gb_below G16.out⟩

set_option maxRecDepth 100000 in
set_option maxHeartbeats 4000000 in
theorem walk_tf (a0 : Option Addr) (la ca : Nat) (za : Nat → Nat → Int) (a1 : Option Addr) (lb cb : Nat) (zb : Nat → Nat → Int) (a2 N : Int) (w : World) (w0 : IsOps w a0 la za) (w1 : IsOps w a1 lb zb) (l2 : 0 ≤ a2) (u2 : a2 ≤ 255) (hN : 1 + a2 % 8 = N) (h0 : la ≤ 50) (h1 : lb ≤ 50) (ha : okN (gz (pb za)) N la = true) (m : Nat) (hm : m < lb) (hb : GC (pb zb) (lb * 3) N m) :
    Calls Try.prog 9 #[.slice a0 la ca, .slice a1 lb cb, .int .u8 a2] w (fun e w' => e = .returned (.bool true) ∧ Below w.heap.size w w') := by
  have ZA := Lib.hid w0
  have ZB := Lib.hid w1
  have HA : Hid (GA (pb za) (la * 3) N la) := ⟨rfl, ha⟩
  have HB := Lib.hid hb
  have HC := Lib.hid (cat_C2 ha hm hb)
  clear ha hb
  have hd : decide ((50 : Int) < (la : Int)) = false := by simp; omega
  have hd1 : decide ((50 : Int) < (lb : Int)) = false := by simp; omega
  have hcv : IntKind.i64.wrap a2 = a2 := IntWalk.i64_in _ (by omega)
  clear w0 w1
  go_enter Try.func9, Try.ntmps9
  go_wp2_with fail
  refine (alive_any _).mono ?_
  rintro e v1 ⟨rfl, g1⟩
  go_upto_region 6 with fail
  clear hN hcv hd hd1 l2 u2
  have OE : Hid ((v1.alloc (.cells #[] 24)).ownsRow w.heap.size 24 3 (.slice (some ⟨v1.heap.size, 0, none⟩) 0 0) 0 []) := ownsRow_drop (ownsRow_empty v1 _ 3) g1.out.size
  have GE := Lib.hid (gb_alloc g1.out (.cells #[] 24))
  have SA := Lib.hid (ZA.out.grown GE.out).src
  clear g1
  go_wp2_with (first | (at_builtin; refine appendOp _ rfl (.tmp 35) (.tmp 36) rfl w.heap.size _ la (ops za la) rfl O2.out a1 lb cb (ops zb lb) rfl (ops_length zb lb) SB.out (one_ops zb lb) (by omega) G2.out.size ?_; intro b3 c3 v3 ho3 hg3 hv3; have M3 := Lib.hid (IsOps.of_own (by rw [ops_cat]; exact ho3 : v3.ownsRow w.heap.size 24 3 (.slice b3 (la + lb) c3) (la + lb) (ops (cat za la zb) (la + lb)))); have G3 := Lib.hid (gb_overO G2.out hg3 (fun i hi => (O2.out.lt i hi).1)); clear ho3 hg3 hv3) | (at_builtin; refine appendOp _ rfl (.tmp 33) (.tmp 34) rfl w.heap.size _ 0 [] rfl OE.out a0 la ca (ops za la) rfl (ops_length za la) SA.out (one_ops za la) (by omega) GE.out.size ?_; simp only [Nat.zero_add, List.nil_append]; intro b2 c2 v2 ho2 hg2 hv2; have O2 := Lib.hid ho2; have G2 := Lib.hid (gb_overO GE.out hg2 (fun i hi => (OE.out.lt i hi).1)); have SB := Lib.hid (ZB.out.grown G2.out).src; clear ho2 hg2 hv2))
  clear OE GE SA O2 SB G2
  refine (put_any b3 (la + lb) c3 (cat za la zb) v3 M3.out (by omega)).mono ?_
  rintro e v4 ⟨b4, c4, rfl, R4, g4⟩
  have HAB := Lib.hid (bs_cat za la zb lb)
  generalize hLX : (la + lb) * 3 = LX at *
  have HLX := Lib.hid hLX
  have hLX2 : LX ≤ 300 := by omega
  clear hLX
  have G4 := Lib.hid (gb_trans G3.out g4.out)
  have M4 := Lib.hid (M3.out.grown g4.out)
  have X4 := Lib.hid (IsNums.of_own (k := .u8) R4.out)
  obtain ⟨q1, q2⟩ := row_cap R4.out
  have Q2 := Lib.hid q2
  clear g4 R4 M3 G3 q2
  -- the bytes as strings
  have HX := Lib.hid (fun (u : World) (g : v4.grownBy u none) => conv_str u b4 LX c4 _ (X4.out.grown g))
  have HSa := Lib.hid (bs_size (pb za) (la * 3))
  have HSb := Lib.hid (bs_size (pb zb) (lb * 3))
  have hadd : ∀ u : World, (Op.stringOp .add (bs (pb za) (la * 3)) (bs (pb zb) (lb * 3))).run Try.prog u = .ok (.string (bs (pb (cat za la zb)) LX)) u := fun u => by rw [HAB.out]; exact run_string_add_sum u _ _ (by rw [HSa.out, HSb.out]; omega)
  have HPa := Lib.hid (fun (u : World) (g : w.grownBy u none) => put_any a0 la ca za u (ZA.out.grown g) (by omega))
  have HPb := Lib.hid (fun (u : World) (g : w.grownBy u none) => put_any a1 lb cb zb u (ZB.out.grown g) (by omega))
  have HOx := Lib.hid (fun (u : World) (g : v4.grownBy u none) => opens_any b3 (la + lb) c3 (cat za la zb) u (M4.out.grown g) (by unfold maxLen; omega))
  have HOa := Lib.hid (fun (u : World) (g : w.grownBy u none) => opens_any a0 la ca za u (ZA.out.grown g) (by unfold maxLen; omega))
  have HOb := Lib.hid (fun (u : World) (g : w.grownBy u none) => opens_any a1 lb cb zb u (ZB.out.grown g) (by unfold maxLen; omega))
  have hla := opens_le za la
  have hlb := opens_le zb lb
  have hoc := opens_cat za la zb lb
  rw [hoc] at HOx
  have hw1 : IntKind.i64.wrap ((opens za la : Int) + (opens zb lb : Int)) = (opens za la : Int) + (opens zb lb : Int) := IntWalk.i64_in _ (by omega)
  clear hoc
  generalize opens za la = pa at *
  generalize opens zb lb = pq at *
  rw [Int.natCast_add] at HOx
  clear HAB HSa HSb
  generalize bs (pb (cat za la zb)) LX = X at *
  have HAs := Lib.hid (fun (u : World) (b : Option Addr) (c : Nat) (h : IsNums .u8 u b (la * 3) (pb za)) => conv_str u b (la * 3) c _ h)
  have HBs := Lib.hid (fun (u : World) (b : Option Addr) (c : Nat) (h : IsNums .u8 u b (lb * 3) (pb zb)) => conv_str u b (lb * 3) c _ h)
  generalize bs (pb za) (la * 3) = A at *
  generalize bs (pb zb) (lb * 3) = B at *
  have hcx0 := HX.out v4 (gb_refl _ _)
  have hcx := HX.out v4.drew (gb_drew (gb_refl _ _))
  go_upto_region 8 with fail
  have V4 : Hid (v4.grownBy v4.drew none) := gb_drew (gb_refl _ _)
  go_cut [59] (fun tv wx => tv = .bool false ∧ Hid (w.grownBy wx none) ∧ Hid (v4.grownBy wx none))
  case first =>
    go_region_held_law (fun w' => (convert 38 9 (.slice b4 LX c4)).run Try.prog w' = .ok (.string X) w') (go_keep) (first | (go_at_call 16; refine (HOb.out _ G8.out).mono ?_; rintro e u9 ⟨rfl, g9⟩; have G9 := Lib.hid (gb_trans G8.out g9.out); have K9 := Lib.hid (gb_trans K8.out g9.out); have hcx := HX.out u9 K9.out) | (go_at_call 16; refine (HOa.out _ G7.out).mono ?_; rintro e u8 ⟨rfl, g8⟩; have G8 := Lib.hid (gb_trans G7.out g8.out); have K8 := Lib.hid (gb_trans K7.out g8.out); have hcx := HX.out u8 K8.out) | (go_at_call 16; refine (HOx.out _ K6.out).mono ?_; rintro e u7 ⟨rfl, g7⟩; have G7 := Lib.hid (gb_trans G6.out g7.out); have K7 := Lib.hid (gb_trans K6.out g7.out); have hcx := HX.out u7 K7.out) | (go_at_call 23; refine (HPb.out _ G5.out).mono ?_; rintro e u6 ⟨b6, c6, rfl, R6, g6⟩; have G6 := Lib.hid (gb_trans G5.out g6.out); have K6 := Lib.hid (gb_trans K5.out g6.out); have hcx := HX.out u6 K6.out; have hca := HAs.out u6 b5 c5 (N5.out.grown g6.out); have hcb := HBs.out u6 b6 c6 (IsNums.of_own (k := .u8) R6.out)) | (go_at_call 23; refine (HPa.out _ (gb_drew G4.out)).mono ?_; rintro e u5 ⟨b5, c5, rfl, R5, g5⟩; have G5 := Lib.hid (gb_trans (gb_drew G4.out) g5.out); have K5 := Lib.hid (gb_trans V4.out g5.out); have hcx := HX.out u5 K5.out; have N5 := Lib.hid (IsNums.of_own (k := .u8) R5.out); have hca := HAs.out u5 b5 c5 N5.out))
    all_goals go_wp2
    all_goals go_meet
    all_goals exact ⟨rfl, G9, K9⟩
  case rest =>
  obtain ⟨rfl, G9, K9⟩ := hcut
  clear hcx hcx0 hadd hw1
  go_wp2_with fail
  refine (HPa.out _ G9.out).mono ?_
  rintro e u10 ⟨b10, c10, rfl, R10, g10⟩
  have G10 := Lib.hid (gb_trans G9.out g10.out)
  have K10 := Lib.hid (gb_trans K9.out g10.out)
  have N10 := Lib.hid (IsNums.of_own (k := .u8) R10.out)
  obtain ⟨p1, p2⟩ := row_cap R10.out
  have P2 := Lib.hid p2
  clear g10 R10 G9 K9 p2
  go_wp2_with fail
  refine (get_A b10 (la * 3) c10 (pb za) N _ la N10.out (pb_range za _) p1 P2.out (by omega) HA.out).mono ?_
  rintro e u11 ⟨b11, c11, rfl, R11, g11⟩
  have G11 := Lib.hid (gb_trans G10.out g11.out)
  have K11 := Lib.hid (gb_trans K10.out g11.out)
  have HW := Lib.hid (show w.heap.size ≤ u10.heap.size from G10.out.size)
  have HB11 := Lib.hid (show u10.heap.size ≤ u11.heap.size from g11.out.size)
  clear g11 N10 G10 K10 P2 p1
  go_wp2_with fail
  refine (HPb.out _ G11.out).mono ?_
  rintro e u12 ⟨b12, c12, rfl, R12, g12⟩
  have G12 := Lib.hid (gb_trans G11.out g12.out)
  have K12 := Lib.hid (gb_trans K11.out g12.out)
  have N12 := Lib.hid (IsNums.of_own (k := .u8) R12.out)
  have g12 := Lib.hid g12.out
  obtain ⟨p1, p2⟩ := row_cap R12.out
  have P2 := Lib.hid p2
  clear R12 G11 K11 p2
  go_wp2_with fail
  refine (get_C b12 (lb * 3) c12 (pb zb) N _ m N12.out (pb_range zb _) p1 P2.out (by omega) HB.out).mono ?_
  rintro e u13 ⟨rfl, g13⟩
  have G13 := Lib.hid (gb_trans G12.out g13.out)
  have K13 := Lib.hid (gb_trans K12.out g13.out)
  clear g13 N12 G12 K12 P2 p1 g12
  go_wp2_with fail
  refine (get_C b4 LX c4 (pb (cat za la zb)) N _ (la + m) (X4.out.grown K13.out) (pb_range _ _) q1 Q2.out (by omega) HC.out).mono ?_
  rintro e u14 ⟨rfl, g14⟩
  have G14 := Lib.hid (gb_trans G13.out g14.out)
  clear g14 G13 K13
  have hL := HC.out.1
  generalize hML : (la + m) * 3 = L at *
  have HML := Lib.hid hML
  have hl1 : (L : Int) < (LX : Int) := by omega
  have hl2 : ((L : Int) % 3 == 0) = true := by simp; omega
  have hl3 : (L : Int) % 3 = 0 := by omega
  clear hML hL
  go_wp2
  go_ret
  exact ⟨rfl, gb_below G14.out⟩

set_option maxRecDepth 100000 in
set_option maxHeartbeats 4000000 in
theorem walk_f (a0 : Option Addr) (la ca : Nat) (za : Nat → Nat → Int) (a1 : Option Addr) (lb cb : Nat) (zb : Nat → Nat → Int) (a2 N : Int) (w : World) (w0 : IsOps w a0 la za) (w1 : IsOps w a1 lb zb) (l2 : 0 ≤ a2) (u2 : a2 ≤ 255) (hN : 1 + a2 % 8 = N) (h0 : la ≤ 50) (h1 : lb ≤ 50) (m : Nat) (hm : m < la) (ha : GC (pb za) (la * 3) N m) :
    Calls Try.prog 9 #[.slice a0 la ca, .slice a1 lb cb, .int .u8 a2] w (fun e w' => e = .returned (.bool true) ∧ Below w.heap.size w w') := by
  have ZA := Lib.hid w0
  have ZB := Lib.hid w1
  have HA := Lib.hid ha
  have HC := Lib.hid (cat_C1 (zb := zb) (lb := lb) hm ha)
  clear ha
  have hd : decide ((50 : Int) < (la : Int)) = false := by simp; omega
  have hd1 : decide ((50 : Int) < (lb : Int)) = false := by simp; omega
  have hcv : IntKind.i64.wrap a2 = a2 := IntWalk.i64_in _ (by omega)
  clear w0 w1
  go_enter Try.func9, Try.ntmps9
  go_wp2_with fail
  refine (alive_any _).mono ?_
  rintro e v1 ⟨rfl, g1⟩
  go_upto_region 6 with fail
  clear hN hcv hd hd1 l2 u2
  have OE : Hid ((v1.alloc (.cells #[] 24)).ownsRow w.heap.size 24 3 (.slice (some ⟨v1.heap.size, 0, none⟩) 0 0) 0 []) := ownsRow_drop (ownsRow_empty v1 _ 3) g1.out.size
  have GE := Lib.hid (gb_alloc g1.out (.cells #[] 24))
  have SA := Lib.hid (ZA.out.grown GE.out).src
  clear g1
  go_wp2_with (first | (at_builtin; refine appendOp _ rfl (.tmp 35) (.tmp 36) rfl w.heap.size _ la (ops za la) rfl O2.out a1 lb cb (ops zb lb) rfl (ops_length zb lb) SB.out (one_ops zb lb) (by omega) G2.out.size ?_; intro b3 c3 v3 ho3 hg3 hv3; have M3 := Lib.hid (IsOps.of_own (by rw [ops_cat]; exact ho3 : v3.ownsRow w.heap.size 24 3 (.slice b3 (la + lb) c3) (la + lb) (ops (cat za la zb) (la + lb)))); have G3 := Lib.hid (gb_overO G2.out hg3 (fun i hi => (O2.out.lt i hi).1)); clear ho3 hg3 hv3) | (at_builtin; refine appendOp _ rfl (.tmp 33) (.tmp 34) rfl w.heap.size _ 0 [] rfl OE.out a0 la ca (ops za la) rfl (ops_length za la) SA.out (one_ops za la) (by omega) GE.out.size ?_; simp only [Nat.zero_add, List.nil_append]; intro b2 c2 v2 ho2 hg2 hv2; have O2 := Lib.hid ho2; have G2 := Lib.hid (gb_overO GE.out hg2 (fun i hi => (OE.out.lt i hi).1)); have SB := Lib.hid (ZB.out.grown G2.out).src; clear ho2 hg2 hv2))
  clear OE GE SA O2 SB G2
  refine (put_any b3 (la + lb) c3 (cat za la zb) v3 M3.out (by omega)).mono ?_
  rintro e v4 ⟨b4, c4, rfl, R4, g4⟩
  have HAB := Lib.hid (bs_cat za la zb lb)
  generalize hLX : (la + lb) * 3 = LX at *
  have HLX := Lib.hid hLX
  have hLX2 : LX ≤ 300 := by omega
  clear hLX
  have G4 := Lib.hid (gb_trans G3.out g4.out)
  have M4 := Lib.hid (M3.out.grown g4.out)
  have X4 := Lib.hid (IsNums.of_own (k := .u8) R4.out)
  obtain ⟨q1, q2⟩ := row_cap R4.out
  have Q2 := Lib.hid q2
  clear g4 R4 M3 G3 q2
  -- the bytes as strings
  have HX := Lib.hid (fun (u : World) (g : v4.grownBy u none) => conv_str u b4 LX c4 _ (X4.out.grown g))
  have HSa := Lib.hid (bs_size (pb za) (la * 3))
  have HSb := Lib.hid (bs_size (pb zb) (lb * 3))
  have hadd : ∀ u : World, (Op.stringOp .add (bs (pb za) (la * 3)) (bs (pb zb) (lb * 3))).run Try.prog u = .ok (.string (bs (pb (cat za la zb)) LX)) u := fun u => by rw [HAB.out]; exact run_string_add_sum u _ _ (by rw [HSa.out, HSb.out]; omega)
  have HPa := Lib.hid (fun (u : World) (g : w.grownBy u none) => put_any a0 la ca za u (ZA.out.grown g) (by omega))
  have HPb := Lib.hid (fun (u : World) (g : w.grownBy u none) => put_any a1 lb cb zb u (ZB.out.grown g) (by omega))
  have HOx := Lib.hid (fun (u : World) (g : v4.grownBy u none) => opens_any b3 (la + lb) c3 (cat za la zb) u (M4.out.grown g) (by unfold maxLen; omega))
  have HOa := Lib.hid (fun (u : World) (g : w.grownBy u none) => opens_any a0 la ca za u (ZA.out.grown g) (by unfold maxLen; omega))
  have HOb := Lib.hid (fun (u : World) (g : w.grownBy u none) => opens_any a1 lb cb zb u (ZB.out.grown g) (by unfold maxLen; omega))
  have hla := opens_le za la
  have hlb := opens_le zb lb
  have hoc := opens_cat za la zb lb
  rw [hoc] at HOx
  have hw1 : IntKind.i64.wrap ((opens za la : Int) + (opens zb lb : Int)) = (opens za la : Int) + (opens zb lb : Int) := IntWalk.i64_in _ (by omega)
  clear hoc
  generalize opens za la = pa at *
  generalize opens zb lb = pq at *
  rw [Int.natCast_add] at HOx
  clear HAB HSa HSb
  generalize bs (pb (cat za la zb)) LX = X at *
  have HAs := Lib.hid (fun (u : World) (b : Option Addr) (c : Nat) (h : IsNums .u8 u b (la * 3) (pb za)) => conv_str u b (la * 3) c _ h)
  have HBs := Lib.hid (fun (u : World) (b : Option Addr) (c : Nat) (h : IsNums .u8 u b (lb * 3) (pb zb)) => conv_str u b (lb * 3) c _ h)
  generalize bs (pb za) (la * 3) = A at *
  generalize bs (pb zb) (lb * 3) = B at *
  have hcx0 := HX.out v4 (gb_refl _ _)
  have hcx := HX.out v4.drew (gb_drew (gb_refl _ _))
  go_upto_region 8 with fail
  have V4 : Hid (v4.grownBy v4.drew none) := gb_drew (gb_refl _ _)
  go_cut [59] (fun tv wx => tv = .bool false ∧ Hid (w.grownBy wx none) ∧ Hid (v4.grownBy wx none))
  case first =>
    go_region_held_law (fun w' => (convert 38 9 (.slice b4 LX c4)).run Try.prog w' = .ok (.string X) w') (go_keep) (first | (go_at_call 16; refine (HOb.out _ G8.out).mono ?_; rintro e u9 ⟨rfl, g9⟩; have G9 := Lib.hid (gb_trans G8.out g9.out); have K9 := Lib.hid (gb_trans K8.out g9.out); have hcx := HX.out u9 K9.out) | (go_at_call 16; refine (HOa.out _ G7.out).mono ?_; rintro e u8 ⟨rfl, g8⟩; have G8 := Lib.hid (gb_trans G7.out g8.out); have K8 := Lib.hid (gb_trans K7.out g8.out); have hcx := HX.out u8 K8.out) | (go_at_call 16; refine (HOx.out _ K6.out).mono ?_; rintro e u7 ⟨rfl, g7⟩; have G7 := Lib.hid (gb_trans G6.out g7.out); have K7 := Lib.hid (gb_trans K6.out g7.out); have hcx := HX.out u7 K7.out) | (go_at_call 23; refine (HPb.out _ G5.out).mono ?_; rintro e u6 ⟨b6, c6, rfl, R6, g6⟩; have G6 := Lib.hid (gb_trans G5.out g6.out); have K6 := Lib.hid (gb_trans K5.out g6.out); have hcx := HX.out u6 K6.out; have hca := HAs.out u6 b5 c5 (N5.out.grown g6.out); have hcb := HBs.out u6 b6 c6 (IsNums.of_own (k := .u8) R6.out)) | (go_at_call 23; refine (HPa.out _ (gb_drew G4.out)).mono ?_; rintro e u5 ⟨b5, c5, rfl, R5, g5⟩; have G5 := Lib.hid (gb_trans (gb_drew G4.out) g5.out); have K5 := Lib.hid (gb_trans V4.out g5.out); have hcx := HX.out u5 K5.out; have N5 := Lib.hid (IsNums.of_own (k := .u8) R5.out); have hca := HAs.out u5 b5 c5 N5.out))
    all_goals go_wp2
    all_goals go_meet
    all_goals exact ⟨rfl, G9, K9⟩
  case rest =>
  obtain ⟨rfl, G9, K9⟩ := hcut
  clear hcx hcx0 hadd hw1
  go_wp2_with fail
  refine (HPa.out _ G9.out).mono ?_
  rintro e u10 ⟨b10, c10, rfl, R10, g10⟩
  have G10 := Lib.hid (gb_trans G9.out g10.out)
  have K10 := Lib.hid (gb_trans K9.out g10.out)
  have N10 := Lib.hid (IsNums.of_own (k := .u8) R10.out)
  obtain ⟨p1, p2⟩ := row_cap R10.out
  have P2 := Lib.hid p2
  clear g10 R10 G9 K9 p2
  go_wp2_with fail
  refine (get_C b10 (la * 3) c10 (pb za) N _ m N10.out (pb_range za _) p1 P2.out (by omega) HA.out).mono ?_
  rintro e u11 ⟨rfl, g11⟩
  have G11 := Lib.hid (gb_trans G10.out g11.out)
  have K11 := Lib.hid (gb_trans K10.out g11.out)
  clear g11 N10 G10 K10 P2 p1
  go_wp2_with fail
  refine (HPb.out _ G11.out).mono ?_
  rintro e u12 ⟨b12, c12, rfl, R12, g12⟩
  have G12 := Lib.hid (gb_trans G11.out g12.out)
  have K12 := Lib.hid (gb_trans K11.out g12.out)
  have N12 := Lib.hid (IsNums.of_own (k := .u8) R12.out)
  have g12 := Lib.hid g12.out
  obtain ⟨p1, p2⟩ := row_cap R12.out
  have P2 := Lib.hid p2
  clear R12 G11 K11 p2
  go_wp2_with fail
  refine (get_some b12 (lb * 3) c12 (pb zb) N _ N12.out (pb_range zb _) p1 P2.out (by omega)).mono ?_
  rintro e u13 ⟨b13, m13, c13, p13, q13, rfl, g13⟩
  have G13 := Lib.hid (gb_trans G12.out g13.out)
  have K13 := Lib.hid (gb_trans K12.out g13.out)
  clear g13 N12 G12 K12 P2 p1 g12
  go_wp2_with fail
  refine (get_C b4 LX c4 (pb (cat za la zb)) N _ m (X4.out.grown K13.out) (pb_range _ _) q1 Q2.out (by omega) HC.out).mono ?_
  rintro e u14 ⟨rfl, g14⟩
  have G14 := Lib.hid (gb_trans G13.out g14.out)
  clear g14 G13 K13
  have hL := HC.out.1
  generalize hML : m * 3 = L at *
  have HML := Lib.hid hML
  have hl1 : (L : Int) < (LX : Int) := by omega
  have hl2 : ((L : Int) % 3 == 0) = true := by simp; omega
  have hl3 : (L : Int) % 3 = 0 := by omega
  clear hML hL
  go_wp2
  go_ret
  exact ⟨rfl, gb_below G14.out⟩

theorem walk (a0 : Option Addr) (len0 cap0 : Nat) (z0 : Nat → Nat → Int) (a1 : Option Addr) (len1 cap1 : Nat) (z1 : Nat → Nat → Int) (a2 : Int) (w : World) (w0 : IsInts 3 w a0 len0 cap0 z0) (w1 : IsInts 3 w a1 len1 cap1 z1) (w2 : (Lit.int .u8 a2).wf = true) :
    Calls Try.prog 9 #[.slice a0 len0 cap0, .slice a1 len1 cap1, .int .u8 a2] w (fun e w' => e = .returned (.bool true) ∧ Below w.heap.size w w') := by
  have l := bounds_u8 w2
  by_cases h : 50 < len0 ∨ 50 < len1
  · exact walk_out a0 len0 cap0 a1 len1 cap1 a2 w l.1 l.2 h
  · have x0 := IsOps.of_ints w0
    have x1 := IsOps.of_ints w1
    cases ha : okN (gz (pb z0)) (1 + a2 % 8) len0 with
    | true =>
      cases hb : okN (gz (pb z1)) (1 + a2 % 8) len1 with
      | true => exact walk_tt a0 len0 cap0 z0 a1 len1 cap1 z1 a2 _ w x0 x1 l.1 l.2 rfl (by omega) (by omega) ha hb
      | false =>
        obtain ⟨m, hm, hc⟩ := first_C hb
        exact walk_tf a0 len0 cap0 z0 a1 len1 cap1 z1 a2 _ w x0 x1 l.1 l.2 rfl (by omega) (by omega) ha m hm hc
    | false =>
      obtain ⟨m, hm, hc⟩ := first_C ha
      exact walk_f a0 len0 cap0 z0 a1 len1 cap1 z1 a2 _ w x0 x1 l.1 l.2 rfl (by omega) (by omega) m hm hc

theorem own : ownKnob Try.prog.godebug = none := by kernel_rfl
theorem laidOut : laidOutB Try.prog = true := by kernel_rfl

/-! ### THE ROW's STEP, as the guide has it -/
set_option maxRecDepth 100000 in
theorem lifted (os : Os) (started : os.Started) (H : Type) (enc : TypeId × Value → H) :
    ReturnsInHanded {} Try.checked os 9 .any (Rows.langPartsSpec.pre6 enc Try.prog Try.f9 Rows.langPartsRow.domain false) (Rows.langPartsSpec.post enc Try.prog Try.f9 false true false false) := by
  refine returnsInHanded_of_change (C := Try.checked) own started (by kernel_rfl) Try.func9
    (ChangeSpec.witness6 (enc := enc) (C := Try.checked) false ⟨#[], #[.slice none 0 0, .slice none 0 0, .int .u8 0], []⟩ 8 (by kernel_rfl) (by kernel_rfl) (by kernel_rfl) (by kernel_rfl)) ?_
  intro W base args ds gs before hval0 hW hcnd _
  have hval : ∀ (j : Nat) t v, Try.f9.params[j]? = some t → args[j]? = some v → Value.okWide Try.prog W .any base t v := hval0
  have hW' := hW
  obtain ⟨p, q, hA0, hV, rfl, hfz, hnd⟩ := hW
  have hA : DataW.TrodAll enc Try.prog W 0 (fun _ => true) true Try.f9.params.toList args.toList ds p := hA0
  rw [Try.params9] at hA hval
  obtain ⟨v0, vs0, d0, ds0, p0, q0, hargs, rfl, rfl, h0, r0⟩ := trodAll_cons hA
  obtain ⟨v1, vs1, d1, ds1, p1, q1, rfl, rfl, rfl, h1, r1⟩ := trodAll_cons r0
  obtain ⟨v2, vs2, d2, ds2, p2, q2, rfl, rfl, rfl, h2, r2⟩ := trodAll_cons r1
  obtain ⟨rfl, rfl, rfl⟩ := trodAll_nil r2
  obtain rfl : args = #[v0, v1, v2] := by cases args; simp_all
  obtain ⟨rfl, rfl⟩ := trodVars_none hV
  obtain ⟨a0, len0, cap0, rfl⟩ := okWide_slice Try.underlying22 (hval 0 22 v0 rfl rfl)
  have k0 := h0
  have lt0 : ∀ x ∈ p0, x.block < W.heap.size := by obtain ⟨m, hm⟩ := k0; exact DataW.trod_lt m _ _ _ hm
  obtain ⟨z0, w0⟩ : ∃ z, IsInts 3 W a0 len0 cap0 z := by
    obtain ⟨fuel, hf⟩ := h0
    exact isMixed_of Try.underlying22 Try.underlying24 Try.underlying3 Try.underlying2 (by kernel_rfl) (by kernel_rfl) (by kernel_rfl) (by decide) (by decide) hf
  obtain ⟨a1, len1, cap1, rfl⟩ := okWide_slice Try.underlying22 (hval 1 22 v1 rfl rfl)
  have k1 := h1
  have lt1 : ∀ x ∈ p1, x.block < W.heap.size := by obtain ⟨m, hm⟩ := k1; exact DataW.trod_lt m _ _ _ hm
  obtain ⟨z1, w1⟩ : ∃ z, IsInts 3 W a1 len1 cap1 z := by
    obtain ⟨fuel, hf⟩ := h1
    exact isMixed_of Try.underlying22 Try.underlying24 Try.underlying3 Try.underlying2 (by kernel_rfl) (by kernel_rfl) (by kernel_rfl) (by decide) (by decide) hf
  obtain ⟨a2, rfl, rfl, rfl, w2⟩ := open_int Try.underlying5 (hval 2 5 v2 rfl rfl) h2
  clear hA0 hval0
  refine (walk a0 len0 cap0 z0 a1 len1 cap1 z1 a2 W w0 w1 w2).mono fun e W' ⟨he, bel⟩ => ?_
  subst he
  exact ⟨_, rfl, _, _, _, [], _, [], hW', trodAll_mk1 (shut_bool Try.underlying4 _), (trodAll_cons_mk (Below.trod laidOut (by kernel_rfl) (of_decide_eq_true (by kernel_rfl)) k0 bel lt0) (trodAll_cons_mk (Below.trod laidOut (by kernel_rfl) (of_decide_eq_true (by kernel_rfl)) k1 bel lt1) (trodAll_cons_mk (shut_int Try.underlying5 w2) trodAll_mk0))), rfl, bel.frame _, fun h => by cases h⟩

theorem over : Rows.langPartsRow.holds Try.pinned (OpenSpec.ofChange Rows.langPartsSpec) :=
  OpenClaim.holds_of_wide 9 Try.f9 rfl rfl rfl rfl rfl rfl rfl ⟨rfl, rfl, rfl, rfl, rfl⟩ rfl rfl rfl rfl rfl (by kernel_rfl) Try.func9 (by kernel_rfl)
    (of_decide_eq_true (by kernel_rfl)) (by unfold Func.isWrapper; first | (rw [if_pos (by decide +kernel)]; kernel_rfl) | (rw [if_neg (by decide +kernel)]; exact ⟨rfl, rfl⟩))
    (fun os started H enc _ => lifted os started H enc)

theorem proved : Rows.LangPartsSaid := over
#print axioms proved
end Go.Proofs.Ytjajhkgbhckdeaa.langParts
