/- The readings of objects that aren't one's own: the program's, the document's. -/
import Derived.Test.YtfkfobloamambaaRef12
namespace Go.Proofs.Ytfkfobloamambaa.rd
open Go Go.RowKit Go.Proofs.Ytfkfobloamambaa.base Go.Proofs.Ytfkfobloamambaa.lg
set_option linter.unusedVariables false

set_option maxHeartbeats 1000000 in
theorem refunc (w0 : World) (R : Blks) (s : Nat) (l : List Rd) (m : List Ow) (w : World) (h : Has (SB s l m) w0 w R) (hm : l.length ≤ 100000) (hmm : m.length ≤ 1000000) :
    Calls Try.prog 24 #[.pointer (some ⟨s, 0, none⟩)] w fun e w' => ∃ N a c, e = .returned (.slice a N c) ∧ Hid (N = (unc m l).length) ∧ Hid (w'.ownsRow w.heap.size 32 3 (.slice a N c) N (rows Rd.cells (unc m l))) ∧ Hid (w.grownBy w' none) := by
  obtain ⟨i0, hi0, hz00, hz10, hz20⟩ := info_parts infoRefR
  have hi := Lib.hid hi0
  have hz0 := Lib.hid hz00
  have hz1 := Lib.hid hz10
  have hz2 := Lib.hid hz20
  have H := Lib.hid h
  obtain ⟨n, hn⟩ : ∃ n, n = l.length := ⟨_, rfl⟩
  rw [← hn] at hm
  have HL := Lib.hid hn
  have HM := Lib.hid hmm
  clear h hi0 hz00 hz10 hz20 hn hmm
  go_enter Try.func24, Try.ntmps24
  go_wp2_with fail
  go_loopw [3, 4] (fun bv iv wr => ∃ (k N : Nat) (a : Option Addr) (c : Nat) (U : List Rd), k ≤ n ∧ iv = .int .i64 k ∧ Hid (U = unc m (l.take k)) ∧ bv = .slice a N c ∧ Hid (N = U.length) ∧ Hid (wr.ownsRow w.heap.size 32 3 (.slice a N c) N (rows Rd.cells U)) ∧ Hid (w.grownBy wr none)) (fun _ iv _ => (n - intOf iv).toNat)
  case atStart => exact ⟨0, 0, none, 0, [], by omega, rfl, rfl, rfl, rfl, World.ownsRow_nil _ _ _ _, gb_refl _ _⟩
  case round =>
    obtain ⟨k, N, a, c, U, hk, rfl, HU, rfl, HNL, O, G⟩ := hrel
    have H2 := Lib.hid (H.out.grown G.out)
    obtain ⟨a0, ca0, _, _, c0, _, i0', _⟩ := SetS.read H2.out
    rw [← HL.out] at c0
    have Z := Lib.hid i0'
    clear i0'
    by_cases hlt : k < n
    · obtain ⟨x, hx⟩ : ∃ x, l[k]? = some x := ⟨_, List.getElem?_eq_getElem (by rw [← HL.out]; exact hlt)⟩
      obtain ⟨b1, off1, rfl, hb1, d0, d1, d2⟩ := at3 Z.out hx
      have hlt' : (k : Int) < (n : Int) := by omega
      have HX := Lib.hid (unc_next (m := m) hx)
      have hN : N ≤ 100000 := by
        have h1 := HNL.out
        have h2 := unc_len m (l.take k)
        rw [HU.out] at h1
        rw [List.length_take] at h2
        omega
      have F := Lib.hid (refO w0 R s l m x.o wr H2.out HM.out)
      cases hp : pl Ow.o x.o m with
      | some j =>
        have HU2 := Lib.hid (show U = unc m (l.take (k + 1)) by rw [HX.out, hp]; exact HU.out)
        rw [hp] at F
        have h0 : decide ((j : Int) < 0) = false := by first | (simp; done) | (simp; omega)
        clear hx HX hp
        go_wp2_with fail
        refine F.out.mono ?_
        rintro e u2 ⟨rfl, rfl⟩
        simp only [pv]
        go_wp2
        go_roundw
        case rel => exact ⟨k + 1, N, a, c, U, by omega, by go_num, HU2, rfl, HNL, O, G⟩
        case measure => simp [intOf]; omega
      | none =>
        have HU2 := Lib.hid (show U ++ [x] = unc m (l.take (k + 1)) by rw [HX.out, hp, HU.out]; rfl)
        rw [hp] at F
        clear hx HX hp
        have hbw := H2.out.size
        have hgs := G.out.size
        go_wp2_with fail
        refine F.out.mono ?_
        rintro e u2 ⟨rfl, rfl⟩
        simp only [pv]
        clear F
        go_wp2_with (at_builtin; go_loud (refine wpList_append_any _ rfl (.tmp 25) (.tmp 33) 27 rfl w.heap.size 32 i0 (.agg #[.int .i64 0, .int .i64 0, .int .i64 0]) 3 24 Try.underlying27 hi.out hz0.out hz1.out hz2.out rfl (by decide) (.slice a N c) N (rows Rd.cells U) rfl (orow_grown O.out (by repeat (first | exact gb_refl _ _ | refine gb_drewN ?_ _ | refine gb_drew ?_ | refine gb_alloc ?_ _))) (some ⟨wr.heap.size, 0, none⟩) 1 1 [.int .i64 x.o, .int .i64 x.n, .int .i64 x.v] rfl rfl (new_src _ _ _ _ rfl) (rone x) (by unfold maxLen; omega) (by omega) (by simp; omega) ?_); intro b2 c2 w3 ho hg hv)
        have O3 : Hid (w3.ownsRow w.heap.size 32 3 (.slice b2 (N + 1) c2) (N + 1) (rows Rd.cells (U ++ [x]))) := by rw [rows_snoc]; exact ho
        have G3 := Lib.hid (gb_overO (gb_alloc G.out _) hg (fun i hi => (O.out.lt i hi).1))
        have HN3 := Lib.hid (show N + 1 = (U ++ [x]).length by rw [List.length_append, HNL.out]; rfl)
        clear ho hg hv
        go_roundw
        case rel => exact ⟨k + 1, N + 1, b2, c2, U ++ [x], by omega, by go_num, HU2, rfl, HN3, O3, G3⟩
        case measure => simp [intOf]; omega
    · obtain rfl : k = n := by omega
      have HF := Lib.hid (show U = unc m l by rw [HU.out, HL.out, List.take_length])
      go_wp2
      go_ret
      exact ⟨N, a, c, rfl, by rw [← HF.out]; exact HNL, by rw [← HF.out]; exact O, G⟩

theorem unc_nil (w : World) : Calls Try.prog 23 #[.pointer none] w fun e w' => e = .returned (.slice none 0 0) ∧ w = w' := by
  go_enter Try.func23, Try.ntmps23
  go_wp2_with fail
  refine (allR_nil _).mono ?_
  rintro e u ⟨rfl, rfl⟩
  go_wp2_with fail
  go_loopw [3, 11] (fun bv iv wr => bv = .slice none 0 0 ∧ iv = .int .i64 0 ∧ wr = w) (fun _ iv _ => 0)
  case atStart => exact ⟨rfl, rfl, rfl⟩
  case round =>
    obtain ⟨rfl, rfl, rfl⟩ := hrel
    go_wp2
    go_ret
    exact ⟨rfl, rfl⟩

set_option maxHeartbeats 1000000 in
theorem unc_any (w0 : World) (R : Blks) (s : Nat) (l : List Rd) (m : List Ow) (w : World) (h : Has (SA s l m) w0 w R) (hm : l.length ≤ 100000) (hmm : m.length ≤ 1000000) :
    Calls Try.prog 23 #[.pointer (some ⟨s, 0, none⟩)] w fun e w' => ∃ N a c, e = .returned (.slice a N c) ∧ Hid (N = (unc m l).length) ∧ Hid (w'.ownsRow w.heap.size 40 3 (.slice a N c) N (rows Rd.cells (unc m l))) ∧ Hid (w.grownBy w' none) := by
  obtain ⟨i0, hi0, hz00, hz10, hz20⟩ := info_parts infoR
  have hi := Lib.hid hi0
  have hz0 := Lib.hid hz00
  have hz1 := Lib.hid hz10
  have hz2 := Lib.hid hz20
  have H := Lib.hid h
  have FA := Lib.hid (allR w0 R s l m w h (by omega))
  obtain ⟨n, hn⟩ : ∃ n, n = l.length := ⟨_, rfl⟩
  rw [← hn] at hm FA
  have HL := Lib.hid hn
  have HM := Lib.hid hmm
  clear h hi0 hz00 hz10 hz20 hn hmm
  go_enter Try.func23, Try.ntmps23
  go_wp2_with fail
  refine FA.out.mono ?_
  rintro e u ⟨aa, ac, rfl, OA, GA⟩
  have ZA := Lib.hid (IsL.of_own OA.out rlen HL.out)
  have hgu := GA.out.size
  clear OA FA
  go_wp2_with fail
  go_loopw [3, 11] (fun bv iv wr => ∃ (k N : Nat) (a : Option Addr) (c : Nat) (U : List Rd), k ≤ n ∧ iv = .int .i64 k ∧ Hid (U = unc m (l.take k)) ∧ bv = .slice a N c ∧ Hid (N = U.length) ∧ Hid (wr.ownsRow w.heap.size 40 3 (.slice a N c) N (rows Rd.cells U)) ∧ Hid (wr.ownsRow u.heap.size 40 3 (.slice a N c) N (rows Rd.cells U)) ∧ Hid (u.grownBy wr none)) (fun _ iv _ => (n - intOf iv).toNat)
  case atStart => exact ⟨0, 0, none, 0, [], by omega, rfl, rfl, rfl, rfl, World.ownsRow_nil _ _ _ _, World.ownsRow_nil _ _ _ _, gb_refl _ _⟩
  case round =>
    obtain ⟨k, N, a, c, U, hk, rfl, HU, rfl, HNL, O, OU, G⟩ := hrel
    have H2 := Lib.hid (H.out.grown (gb_trans GA.out G.out))
    have Z := Lib.hid (ZA.out.grown G.out)
    by_cases hlt : k < n
    · obtain ⟨x, hx⟩ : ∃ x, l[k]? = some x := ⟨_, List.getElem?_eq_getElem (by rw [← HL.out]; exact hlt)⟩
      obtain ⟨b1, off1, rfl, hb1, d0, d1, d2⟩ := at3 Z.out hx
      have hlt' : (k : Int) < (n : Int) := by omega
      have HX := Lib.hid (unc_next (m := m) hx)
      have hN : N ≤ 100000 := by
        have h1 := HNL.out
        have h2 := unc_len m (l.take k)
        rw [HU.out] at h1
        rw [List.length_take] at h2
        omega
      obtain ⟨y, hy⟩ : ∃ y, y = gt Oz Ow.o x.o m := ⟨_, rfl⟩
      have hbw := H2.out.size
      have hgs := G.out.size
      have HA := Lib.hid (H2.out.alloc 40 [.int .i64 x.o, .int .i64 x.n, .int .i64 x.v])
      cases hp : pl Ow.o x.o m with
      | some j =>
        have HU2 := Lib.hid (show U = unc m (l.take (k + 1)) by rw [HX.out, hp]; exact HU.out)
        have F := Lib.hid (hasO w0 _ s l m x.o y true _ HA.out HM.out hy (by rw [hp]; rfl))
        clear hx HX hp hy
        go_wp2_with fail
        refine F.out.mono ?_
        rintro e u2 ⟨rfl, g⟩
        have G2 := Lib.hid (gb_trans (gb_alloc (gb_refl wr none) (.cells ⟨[.int .i64 x.o, .int .i64 x.n, .int .i64 x.v]⟩ 40)) g.out)
        have hg2 := G2.out.size
        clear F g
        go_wp2
        go_roundw
        case rel => exact ⟨k + 1, N, a, c, U, by omega, by go_num, HU2, rfl, HNL, orow_grown O.out (gb_trans G2.out (by repeat (first | exact gb_refl _ _ | refine gb_drewN ?_ _ | refine gb_drew ?_ | refine gb_alloc ?_ _))), orow_grown OU.out (gb_trans G2.out (by repeat (first | exact gb_refl _ _ | refine gb_drewN ?_ _ | refine gb_drew ?_ | refine gb_alloc ?_ _))), gb_trans G.out (gb_trans G2.out (by repeat (first | exact gb_refl _ _ | refine gb_drewN ?_ _ | refine gb_drew ?_ | refine gb_alloc ?_ _)))⟩
        case measure => simp [intOf]; omega
      | none =>
        have HU2 := Lib.hid (show U ++ [x] = unc m (l.take (k + 1)) by rw [HX.out, hp, HU.out]; rfl)
        have F := Lib.hid (hasO w0 _ s l m x.o y false _ HA.out HM.out hy (by rw [hp]; rfl))
        clear hx HX hp hy
        go_wp2_with fail
        refine F.out.mono ?_
        rintro e u2 ⟨rfl, g⟩
        have G2 := Lib.hid (gb_trans (gb_alloc (gb_refl wr none) (.cells ⟨[.int .i64 x.o, .int .i64 x.n, .int .i64 x.v]⟩ 40)) g.out)
        have HA2 := Lib.hid ((HA.out.grown g.out).alloc 44 [.int .i64 y.o, .int .i64 y.c, .int .i64 y.n, .int .i64 y.v, .bool y.b])
        have G3 := Lib.hid (gb_trans G2.out (gb_alloc (gb_refl u2 none) (.cells ⟨[.int .i64 y.o, .int .i64 y.c, .int .i64 y.n, .int .i64 y.v, .bool y.b]⟩ 44)))
        have hlu : wr.heap.size < u2.heap.size := (HA.out.grown g.out).lt 0 rfl
        have O2 := Lib.hid (orow_grown O.out G3.out)
        have OU2 := Lib.hid (orow_grown OU.out G3.out)
        have G4 := Lib.hid (gb_trans G.out G3.out)
        clear F g G2 G3 O OU G HA H2 Z
        generalize wr.heap.size = ws at *
        go_upto_region 7 with fail
        generalize u2.alloc _ = u3 at *
        generalize u2.heap.size = us at *
        have x0 := HA2.out.cell 1 0 rfl rfl; have x1 := HA2.out.cell 1 1 rfl rfl; have x2 := HA2.out.cell 1 2 rfl rfl
        have hg4 := G4.out.size
        go_wp2_with (at_builtin; go_loud (refine wpList_append_any _ rfl (.tmp 24) (.tmp 26) 52 rfl u.heap.size 40 i0 (.agg #[.int .i64 0, .int .i64 0, .int .i64 0]) 3 24 Try.underlying52 hi.out hz0.out hz1.out hz2.out rfl (by decide) (.slice a N c) N (rows Rd.cells U) rfl (orow_grown OU2.out (by repeat (first | exact gb_refl _ _ | refine gb_drewN ?_ _ | refine gb_drew ?_ | refine gb_alloc ?_ _))) (some ⟨u3.heap.size, 0, none⟩) 1 1 [.int .i64 x.o, .int .i64 x.n, .int .i64 x.v] rfl rfl (new_src _ _ _ _ rfl) (rone x) (by unfold maxLen; omega) (by omega) (by simp; omega) ?_); intro b2 c2 w3 ho hg hv)
        have O3 : Hid (w3.ownsRow u.heap.size 40 3 (.slice b2 (N + 1) c2) (N + 1) (rows Rd.cells (U ++ [x]))) := by rw [rows_snoc]; exact ho
        have O4 := Lib.hid (ownsRow_drop O3.out hgu)
        have G5 := Lib.hid (gb_overO (gb_alloc G4.out _) hg (fun i hi => (OU2.out.lt i hi).1))
        have HN3 := Lib.hid (show N + 1 = (U ++ [x]).length by rw [List.length_append, HNL.out]; rfl)
        clear ho hg hv
        go_roundw
        case rel => exact ⟨k + 1, N + 1, b2, c2, U ++ [x], by omega, by go_num, HU2, rfl, HN3, O4, O3, G5⟩
        case measure => simp [intOf]; omega
    · obtain rfl : k = n := by omega
      have HF := Lib.hid (show U = unc m l by rw [HU.out, HL.out, List.take_length])
      go_wp2
      go_ret
      exact ⟨N, a, c, rfl, by rw [← HF.out]; exact HNL, by rw [← HF.out]; exact O, gb_trans GA.out G.out⟩

end Go.Proofs.Ytfkfobloamambaa.rd
