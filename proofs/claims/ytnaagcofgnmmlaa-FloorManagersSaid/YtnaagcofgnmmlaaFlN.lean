/- Package floor: New. -/
import Derived.Test.YtnaagcofgnmmlaaFlX
namespace Go.Proofs.Ytnaagcofgnmmlaa.fl
open Go Go.RowKit Go.Proofs.Ytnaagcofgnmmlaa.base Go.Proofs.Ytnaagcofgnmmlaa.lg Go.Proofs.Ytnaagcofgnmmlaa.ce Go.Proofs.Ytnaagcofgnmmlaa.rf
set_option linter.unusedVariables false

theorem new_range (o r k m p t : Int) (hc : okC o t r k m p = false) (a1 : Option Addr) (len1 cap1 : Nat) (a2 : Option Addr) (len2 cap2 : Nat) (w : World) :
    Calls Try.prog 6 #[.agg #[.int .i64 o, .int .i64 t, .int .i64 r, .int .i64 k, .int .i64 m, .int .i64 p], .slice a1 len1 cap1, .slice a2 len2 cap2] w fun e w' => e = .returned (.tuple #[.pointer none, .int .i64 2]) ∧ Hid (w.grownBy w' none) := by
  have HC := Lib.hid (fun u => check_any o t r k m p u)
  rw [hc] at HC
  clear hc
  go_enter Try.func6, Try.ntmps6
  go_wp2_with fail
  refine (HC.out _).mono ?_
  rintro e v ⟨rfl, g⟩
  go_wp2
  go_ret2
  exact ⟨rfl, gb_trans (gb_alloc (gb_refl _ _) _) g.out⟩

theorem new_form (o r k m p t : Int) (hc : okC o t r k m p = true) (a1 : Option Addr) (len1 cap1 : Nat) (hl : (len1 : Int) ≠ o) (a2 : Option Addr) (len2 cap2 : Nat) (w : World) :
    Calls Try.prog 6 #[.agg #[.int .i64 o, .int .i64 t, .int .i64 r, .int .i64 k, .int .i64 m, .int .i64 p], .slice a1 len1 cap1, .slice a2 len2 cap2] w fun e w' => e = .returned (.tuple #[.pointer none, .int .i64 3]) ∧ Hid (w.grownBy w' none) := by
  have HC := Lib.hid (fun u => check_any o t r k m p u)
  rw [hc] at HC
  have hne : ((len1 : Int) != o) = true := by simpa using hl
  have O0 := Lib.hid ((base.Own.start w).alloc 24 [.int .i64 o, .int .i64 t, .int .i64 r, .int .i64 k, .int .i64 m, .int .i64 p])
  clear hc hl
  go_enter Try.func6, Try.ntmps6
  go_wp2_with fail
  refine (HC.out _).mono ?_
  rintro e v ⟨rfl, g⟩
  have O1 := Lib.hid (O0.out.grown g.out)
  have c0 := O1.out.cell 0 0 rfl rfl
  go_wp2
  go_ret2
  exact ⟨rfl, O1.out.grow⟩

theorem new_full (o r k m p t : Int) (hc : okC o t r k m p = true) (a1 : Option Addr) (len1 cap1 : Nat) (hl : (len1 : Int) = o) (h2 : r < 2 * (len1 : Int)) (a2 : Option Addr) (len2 cap2 : Nat) (w : World) :
    Calls Try.prog 6 #[.agg #[.int .i64 o, .int .i64 t, .int .i64 r, .int .i64 k, .int .i64 m, .int .i64 p], .slice a1 len1 cap1, .slice a2 len2 cap2] w fun e w' => e = .returned (.tuple #[.pointer none, .int .i64 4]) ∧ Hid (w.grownBy w' none) := by
  have HC := Lib.hid (fun u => check_any o t r k m p u)
  rw [hc] at HC
  have hok := hc
  simp only [okC, Bool.and_eq_true] at hok
  obtain ⟨b1, b2, b3, b4, b5, b6⟩ := hok
  have b1 := inB_true b1
  have b3 := inB_true b3
  have HG := Lib.hid (fun u => ground_full o t r k m p b3 a1 len1 cap1 u (by omega) (by omega) h2)
  have hne : ((len1 : Int) != o) = false := by simpa using hl
  have O0 := Lib.hid ((base.Own.start w).alloc 24 [.int .i64 o, .int .i64 t, .int .i64 r, .int .i64 k, .int .i64 m, .int .i64 p])
  clear hc hl b1 b2 b3 b4 b5 b6 h2
  go_enter Try.func6, Try.ntmps6
  go_wp2_with fail
  refine (HC.out _).mono ?_
  rintro e v ⟨rfl, g⟩
  have O1 := Lib.hid (O0.out.grown g.out)
  have c0 := O1.out.cell 0 0 rfl rfl; have c1 := O1.out.cell 0 1 rfl rfl; have c2 := O1.out.cell 0 2 rfl rfl; have c3 := O1.out.cell 0 3 rfl rfl; have c4 := O1.out.cell 0 4 rfl rfl; have c5 := O1.out.cell 0 5 rfl rfl
  go_wp2_with fail
  refine (HG.out _).mono ?_
  rintro e v2 ⟨rfl, g2⟩
  have O2 := Lib.hid (((O1.out.grown g2.out).alloc 51 [.pointer none, .pointer none, .pointer none]))
  go_wp2
  go_ret2
  exact ⟨rfl, O2.out.grow⟩

/-- The thing that a floor's cells are. -/
abbrev CelP (b0 cb tb ab : Nat) (r : Int) (rs : List ar.Rc) (hd : List Int) (m : Nat) (is : Int → Bool) (num : Int → Nat → Int) (B : Int) : World → (Nat → Prop) → Prop := fun w F => Cel b0 w cb tb ab r rs hd m is num B F
theorem firm_cel {b0 cb tb ab : Nat} {r : Int} {rs : List ar.Rc} {hd : List Int} {m : Nat} {is : Int → Bool} {num : Int → Nat → Int} {B : Int} : Firm (CelP b0 cb tb ab r rs hd m is num B) := fun _ _ _ h hk => Cel.keep h hk

theorem perm_floor {x y z : Nat × TypeId × List Value} {LB R : Blks} : List.Perm (x :: (LB ++ (y :: z :: R))) (y :: z :: x :: (LB ++ R)) := by
  refine ((List.perm_middle (l₁ := x :: LB) (a := y) (l₂ := z :: R))).trans (List.Perm.cons y ?_)
  exact List.perm_middle (l₁ := x :: LB) (a := z) (l₂ := R)

set_option maxRecDepth 100000 in
set_option maxHeartbeats 4000000 in
theorem new_ok (o r k m p : Int) (n : Nat) (hc : okC o n r k m p = true) (a1 : Option Addr) (len1 cap1 : Nat) (z1 : Nat → Int) (hl : (len1 : Int) = o) (h2 : 2 * (len1 : Int) ≤ r) (a2 : Option Addr) (len2 cap2 : Nat) (z2 : Nat → Int) (hl2 : len2 ≤ 1000000) (w : World) (hz1 : IsRow .i64 w a1 len1 cap1 z1) (hz2 : IsRow .u8 w a2 len2 cap2 z2) :
    Calls Try.prog 6 #[.agg #[.int .i64 o, .int .i64 n, .int .i64 r, .int .i64 k, .int .i64 m, .int .i64 p], .slice a1 len1 cap1, .slice a2 len2 cap2] w fun e w' => ∃ fb ab tb cb tk g b0 X, e = .returned (.tuple #[.pointer (some ⟨fb, 0, none⟩), .int .i64 0]) ∧ Hid (FloX fb n (drawn z2 len2) (fun _ => 0) [] ⟨ab, tb, cb, tk, g, o, r, k, m, p, 0, false, 0, 0, fun _ => 0, 0⟩ X) ∧
      Hid (Hold (CelP b0 cb tb ab r (firsts z1 len1) (heads len1) 0 (fun _ => false) (fun _ _ => 0) 100) w w' X) := by
  have HC := Lib.hid (fun u => check_any o n r k m p u)
  rw [hc] at HC
  have hok := hc
  simp only [okC, Bool.and_eq_true] at hok
  obtain ⟨b1, b2, b3, b4, b5, b6⟩ := hok
  have b1 := inB_true b1
  have b2 := inB_true b2
  have b3 := inB_true b3
  have b4 := inB_true b4
  have b5 := inB_true b5
  have h1n : 1 ≤ n := by omega
  have h6n : n ≤ 6 := by omega
  have HG := Lib.hid (fun u hu => ground_ok o n r k m p b3 a1 len1 cap1 z1 u hu (by omega) (by omega) h2)
  obtain ⟨mt, HM⟩ : ∃ mt, mgr m = .iface mt (.agg #[]) := by
    unfold mgr
    split
    · exact ⟨_, rfl⟩
    split
    · exact ⟨_, rfl⟩
    split
    · exact ⟨_, rfl⟩
    exact ⟨_, rfl⟩
  have HR := fun bb u L hu => rules_any o r k m p n b4 ⟨h1n, h6n⟩ b5 bb u L hu
  simp only [HM] at HR
  have HR := Lib.hid HR
  have HM := Lib.hid HM
  have HD := Lib.hid (fun bb u L hu hz => dice_any bb u L hu a2 len2 cap2 z2 hz hl2 n h1n h6n)
  have hne : ((len1 : Int) != o) = false := by simpa using hl
  have Z1 := Lib.hid hz1
  have Z2 := Lib.hid hz2
  have NS := Lib.hid (show 1 ≤ n ∧ n ≤ 6 ∧ len2 ≤ 1000000 from ⟨h1n, h6n, hl2⟩)
  have O0 := Lib.hid ((base.Own.start w).alloc 24 [.int .i64 o, .int .i64 n, .int .i64 r, .int .i64 k, .int .i64 m, .int .i64 p])
  clear hc hl b1 b2 b3 b4 b5 b6 h2 hz1 hz2 hl2 h1n h6n
  go_enter Try.func6, Try.ntmps6
  go_wp2_with fail
  refine (HC.out _).mono ?_
  rintro e v ⟨rfl, g0⟩
  have O1 := Lib.hid (O0.out.grown g0.out)
  have Z1' := Lib.hid (Z1.out.below (gb_below O1.out.grow))
  have c0 := O1.out.cell 0 0 rfl rfl; have c1 := O1.out.cell 0 1 rfl rfl; have c2 := O1.out.cell 0 2 rfl rfl; have c3 := O1.out.cell 0 3 rfl rfl; have c4 := O1.out.cell 0 4 rfl rfl; have c5 := O1.out.cell 0 5 rfl rfl
  clear O0 g0 Z1
  go_wp2_with fail
  refine (HG.out _ Z1'.out).mono ?_
  rintro e v2 ⟨b0, ab, tb, cb, F, rfl, hb0, K2, g2⟩
  have O2 := Lib.hid (O1.out.grown g2.out)
  have G2 := Lib.hid (show v.heap.size ≤ b0 ∧ ∀ q, F q → v.heap.size ≤ q ∧ q < v2.heap.size from ⟨hb0.out, fun q hq => ⟨Nat.le_trans hb0.out (K2.out.foot q hq).1, (K2.out.foot q hq).2⟩⟩)
  have HH := Lib.hid (Hold.add (P := CelP b0 cb tb ab r (firsts z1 len1) (heads len1) 0 (fun _ => false) (fun _ _ => 0) 100) O1.out g2.out K2.out G2.out.2)
  have H3 := Lib.hid (HH.out.alloc firm_cel 51 [.pointer (some ⟨ab, 0, none⟩), .pointer (some ⟨tb, 0, none⟩), .pointer (some ⟨cb, 0, none⟩)])
  have hlt2 : w.heap.size < v2.heap.size := O2.out.lt 0 rfl
  clear O1 O2 c0 c1 c2 c3 c4 c5 g2 hb0 K2 G2 Z1' HC HG HH
  go_upto_region 8 with fail
  generalize v2.alloc _ = v3 at *
  generalize v2.heap.size = bg at *
  generalize w.heap.size = bc at *
  obtain ⟨bb, hbb, o3, back⟩ := H3.out.call firm_cel
  obtain ⟨ne1, ne2⟩ := o3.ne' 0 1 rfl rfl (by omega)
  have O3 := Lib.hid o3
  have BK := Lib.hid back
  have WB := Lib.hid hbb
  have c0 := O3.out.cell 1 0 rfl rfl; have c1 := O3.out.cell 1 1 rfl rfl; have c2 := O3.out.cell 1 2 rfl rfl; have c3 := O3.out.cell 1 3 rfl rfl; have c4 := O3.out.cell 1 4 rfl rfl; have c5 := O3.out.cell 1 5 rfl rfl
  have d0 := O3.out.cell 0 0 rfl rfl; have d1 := O3.out.cell 0 1 rfl rfl; have d2 := O3.out.cell 0 2 rfl rfl
  clear o3 back hbb H3 hlt2
  go_region_held3 (fun w' => w'.cell? ⟨bc, 0, none⟩ = some (.int .i64 o) ∧ w'.cell? ⟨bc, 1, none⟩ = some (.int .i64 n) ∧ w'.cell? ⟨bc, 2, none⟩ = some (.int .i64 r) ∧ w'.cell? ⟨bc, 3, none⟩ = some (.int .i64 k) ∧ w'.cell? ⟨bc, 4, none⟩ = some (.int .i64 m) ∧ w'.cell? ⟨bc, 5, none⟩ = some (.int .i64 p) ∧ w'.cell? ⟨bg, 0, none⟩ = some (.pointer (some ⟨ab, 0, none⟩)) ∧ w'.cell? ⟨bg, 1, none⟩ = some (.pointer (some ⟨tb, 0, none⟩)) ∧ w'.cell? ⟨bg, 2, none⟩ = some (.pointer (some ⟨cb, 0, none⟩))) (go_keep) (first
    | (go_at_call 12; refine (HD.out bb _ _ OA.out (Z2.out.below (gb_below (by have h := OA.out.grow; rw [WB.out] at h; exact h)))).mono ?_; rintro e v5 ⟨da, dc, nb, LB, rfl, hR5, o5⟩; have O5 := Lib.hid (o5.out.perm (List.Perm.cons _ List.perm_append_comm)); have y0 := O5.out.cell 6 0 rfl rfl; have y1 := O5.out.cell 6 1 rfl rfl; have y2 := O5.out.cell 6 2 rfl rfl; have y3 := O5.out.cell 6 3 rfl rfl; have y4 := O5.out.cell 6 4 rfl rfl; have y5 := O5.out.cell 6 5 rfl rfl; have z0 := O5.out.cell 5 0 rfl rfl; have z1 := O5.out.cell 5 1 rfl rfl; have z2 := O5.out.cell 5 2 rfl rfl; clear o5)
    | (go_at_call 11; refine (HR.out bb _ _ O3.out.drew).mono ?_; rintro e v4 ⟨tk, g, rfl, G4⟩; obtain ⟨sw, pb, num, a, h6, hN, h0, hA, oA⟩ := G4.out; have OA := Lib.hid oA; have NN := Lib.hid hN; have NA := Lib.hid (And.intro h0 hA); have q0 := OA.out.cell 5 0 rfl rfl; have q1 := OA.out.cell 5 1 rfl rfl; have q2 := OA.out.cell 5 2 rfl rfl; have q3 := OA.out.cell 5 3 rfl rfl; have q4 := OA.out.cell 5 4 rfl rfl; have q5 := OA.out.cell 5 5 rfl rfl; have x0 := OA.out.cell 4 0 rfl rfl; have x1 := OA.out.cell 4 1 rfl rfl; have x2 := OA.out.cell 4 2 rfl rfl; clear oA G4 hN h0 hA h6))
  go_wp2
  go_ret2
  have O6 := O5.out.alloc 67 [.pointer (some ⟨ab, 0, none⟩), .pointer (some ⟨tb, 0, none⟩), .pointer (some ⟨cb, 0, none⟩), .int .i64 o, .int .i64 n, .int .i64 r, .int .i64 k, .int .i64 m, .int .i64 p, .pointer (some ⟨tk, 0, none⟩), .pointer (some ⟨g, 0, none⟩), .iface mt (.agg #[]), .slice da len2 dc, .slice (some ⟨nb, 0, none⟩) n n, .slice none 0 0]
  have O7 := (O6.drop (List.Sublist.cons_cons _ (List.Sublist.cons_cons _ (List.Sublist.cons_cons _ (List.Sublist.cons_cons _ (List.Sublist.cons_cons _ (List.Sublist.cons_cons _ (List.Sublist.cons _ (List.Sublist.cons _ (List.Sublist.refl _)))))))))).perm (List.Perm.cons _ (List.Perm.cons _ (List.perm_middle (l₁ := [_, _, _]))))
  have O7 := Lib.hid O7
  refine ⟨v5.heap.size, ab, tb, cb, tk, g, b0, _, rfl, ⟨da, dc, nb, none, 0, sw, pb, num, a, LB, [], NS.out.1, NS.out.2.1, fun i h => h, by rw [drawn_length]; exact NS.out.2.2, NN.out, NA.out.1, NA.out.2, by rw [drawn_length]; exact hR5.out, Row.nil, rfl⟩, BK.out _ _ ?_⟩
  rw [drawn_length, List.append_nil, HM.out]
  exact O7.out

end Go.Proofs.Ytnaagcofgnmmlaa.fl
