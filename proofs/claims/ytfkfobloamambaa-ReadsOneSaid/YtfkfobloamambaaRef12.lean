/- The contracts of the document's own set (quarrelref12): Has, Mine, Drop, Put, Unclaimed. -/
import Derived.Test.YtfkfobloamambaaChg
namespace Go.Proofs.Ytfkfobloamambaa.rd
open Go Go.RowKit Go.Proofs.Ytfkfobloamambaa.base Go.Proofs.Ytfkfobloamambaa.lg
set_option linter.unusedVariables false

theorem infoRefR : (Try.prog.info? 32).map (fun i => (i.zero, i.size, i.bytes)) = some (some (.agg #[.int .i64 0, .int .i64 0, .int .i64 0]), 3, 24) := by kernel_rfl

theorem infoRefO : (Try.prog.info? 34).map (fun i => (i.zero, i.size, i.bytes)) = some (some (.agg #[.int .i64 0, .int .i64 0, .int .i64 0, .int .i64 0, .bool false]), 5, 40) := by kernel_rfl

theorem refR (w0 : World) (R : Blks) (s : Nat) (l : List Rd) (m : List Ow) (o : Int) (w : World) (h : Has (SB s l m) w0 w R) (hm : l.length ≤ 1000000) :
    Calls Try.prog 9 #[.pointer (some ⟨s, 0, none⟩), .int .i64 o] w fun e w' => e = .returned (.int .i64 (pv (pl Rd.o o l))) ∧ w = w' := by
  obtain ⟨a0, ca0, a1, ca1, c0, c1, i0, i1⟩ := SetS.read h
  have Z := Lib.hid i0
  obtain ⟨n, hn⟩ : ∃ n, n = l.length := ⟨_, rfl⟩
  rw [← hn] at c0 hm
  have HL := Lib.hid hn
  clear h i0 i1 hn
  go_enter Try.func9, Try.ntmps9
  go_wp2_with fail
  go_loopw [5] (fun iv wr => ∃ k : Nat, k ≤ n ∧ iv = .int .i64 k ∧ Hid (∀ (j : Nat) y, j < k → l[j]? = some y → y.o ≠ o) ∧ wr = w) (fun iv _ => (n - intOf iv).toNat)
  case atStart => exact ⟨0, by omega, rfl, (fun j y hj _ => by omega), rfl⟩
  case round =>
    obtain ⟨k, hk, rfl, K, rfl⟩ := hrel
    by_cases hlt : k < n
    · obtain ⟨x, hx⟩ : ∃ x, l[k]? = some x := ⟨_, List.getElem?_eq_getElem (by rw [← HL.out]; exact hlt)⟩
      obtain ⟨b1, off1, rfl, hb1, d0, d1, d2⟩ := at3 Z.out hx
      have hlt' : (k : Int) < (n : Int) := by omega
      have X := Lib.hid hx
      clear hx
      by_cases ho : x.o = o
      · subst ho
        have HP := Lib.hid (pl_some (g := Rd.o) X.out rfl K.out)
        go_wp2_with fail
        go_ret
        exact ⟨by rw [HP.out]; rfl, rfl⟩
      · have HN := Lib.hid (show ∀ (j : Nat) y, j < k + 1 → l[j]? = some y → y.o ≠ o from fun j y hj hy => by
          by_cases e : j = k
          · subst e
            rw [X.out] at hy
            cases hy
            exact ho
          · exact K.out j y (by omega) hy)
        have ho' : (x.o == o) = false := by simpa using ho
        clear ho
        go_wp2
        go_roundw
        case rel => exact ⟨k + 1, by omega, by go_num, HN, by first | rfl | trivial⟩
        case measure => simp [intOf]; omega
    · obtain rfl : k = n := by omega
      have HP := Lib.hid (pl_none (g := Rd.o) (o := o) (l := l) (fun j y hy => K.out j y (by rw [HL.out]; exact (List.getElem?_eq_some_iff.1 hy).1) hy))
      go_wp2
      go_ret
      exact ⟨by rw [HP.out]; rfl, rfl⟩

theorem refO (w0 : World) (R : Blks) (s : Nat) (l : List Rd) (m : List Ow) (o : Int) (w : World) (h : Has (SB s l m) w0 w R) (hm : m.length ≤ 1000000) :
    Calls Try.prog 18 #[.pointer (some ⟨s, 0, none⟩), .int .i64 o] w fun e w' => e = .returned (.int .i64 (pv (pl Ow.o o m))) ∧ w = w' := by
  obtain ⟨a0, ca0, a1, ca1, c0, c1, i0, i1⟩ := SetS.read h
  have Z := Lib.hid i1
  obtain ⟨n, hn⟩ : ∃ n, n = m.length := ⟨_, rfl⟩
  rw [← hn] at c1 hm
  have HL := Lib.hid hn
  clear h i0 i1 hn
  go_enter Try.func18, Try.ntmps18
  go_wp2_with fail
  go_loopw [5] (fun iv wr => ∃ k : Nat, k ≤ n ∧ iv = .int .i64 k ∧ Hid (∀ (j : Nat) y, j < k → m[j]? = some y → y.o ≠ o) ∧ wr = w) (fun iv _ => (n - intOf iv).toNat)
  case atStart => exact ⟨0, by omega, rfl, (fun j y hj _ => by omega), rfl⟩
  case round =>
    obtain ⟨k, hk, rfl, K, rfl⟩ := hrel
    by_cases hlt : k < n
    · obtain ⟨x, hx⟩ : ∃ x, m[k]? = some x := ⟨_, List.getElem?_eq_getElem (by rw [← HL.out]; exact hlt)⟩
      obtain ⟨b1, off1, rfl, hb1, d0, d1, d2, d3, d4⟩ := at5 Z.out hx
      have hlt' : (k : Int) < (n : Int) := by omega
      have X := Lib.hid hx
      clear hx
      by_cases ho : x.o = o
      · subst ho
        have HP := Lib.hid (pl_some (g := Ow.o) X.out rfl K.out)
        go_wp2_with fail
        go_ret
        exact ⟨by rw [HP.out]; rfl, rfl⟩
      · have HN := Lib.hid (show ∀ (j : Nat) y, j < k + 1 → m[j]? = some y → y.o ≠ o from fun j y hj hy => by
          by_cases e : j = k
          · subst e
            rw [X.out] at hy
            cases hy
            exact ho
          · exact K.out j y (by omega) hy)
        have ho' : (x.o == o) = false := by simpa using ho
        clear ho
        go_wp2
        go_roundw
        case rel => exact ⟨k + 1, by omega, by go_num, HN, by first | rfl | trivial⟩
        case measure => simp [intOf]; omega
    · obtain rfl : k = n := by omega
      have HP := Lib.hid (pl_none (g := Ow.o) (o := o) (l := m) (fun j y hy => K.out j y (by rw [HL.out]; exact (List.getElem?_eq_some_iff.1 hy).1) hy))
      go_wp2
      go_ret
      exact ⟨by rw [HP.out]; rfl, rfl⟩

set_option maxHeartbeats 1000000 in
theorem refput_new (w0 : World) (R : Blks) (s : Nat) (l : List Rd) (m : List Ow) (x : Ow) (w : World) (h : Has (SB s l m) w0 w R) (hm : m.length < 1000000) (hk : pl Ow.o x.o m = none) :
    Calls Try.prog 15 #[.pointer (some ⟨s, 0, none⟩), .agg #[.int .i64 x.o, .int .i64 x.c, .int .i64 x.n, .int .i64 x.v, .bool x.b]] w fun e w' => e = .returned (.tuple #[]) ∧ Hid (Has (SB s l (m ++ [x])) w0 w' R) := by
  have H := Lib.hid (h.alloc 34 [.int .i64 x.o, .int .i64 x.c, .int .i64 x.n, .int .i64 x.v, .bool x.b])
  obtain ⟨i0, hi0, hz00, hz10, hz20⟩ := info_parts infoRefO
  have hi := Lib.hid hi0
  have hz0 := Lib.hid hz00
  have hz1 := Lib.hid hz10
  have hz2 := Lib.hid hz20
  clear h hi0 hz00 hz10 hz20
  go_enter Try.func15, Try.ntmps15
  go_upto_region 1 with fail
  generalize w.alloc _ = u at *
  generalize w.heap.size = p at *
  have F := Lib.hid (refO w0 _ s l m x.o u H.out (by omega))
  rw [hk] at F
  have x0 := H.out.cell 0 0 rfl rfl; have x1 := H.out.cell 0 1 rfl rfl; have x2 := H.out.cell 0 2 rfl rfl; have x3 := H.out.cell 0 3 rfl rfl; have x4 := H.out.cell 0 4 rfl rfl
  clear hk
  go_wp2_with fail
  refine F.out.mono ?_
  rintro e u2 ⟨rfl, rfl⟩
  simp only [pv]
  clear F
  go_upto_region 3 with fail
  obtain ⟨V, U, L, M, h1, h2, o3⟩ := SetS.openO H.out
  obtain ⟨ao, cap, rfl⟩ := h2.slice
  have ho := Lib.hid (h2.owns olen o3)
  have h1 := Lib.hid h1
  have h2 := Lib.hid h2
  have O3 := Lib.hid o3
  have O3' := Lib.hid (Own.mid.2 o3)
  clear o3
  have c1 := O3'.out.cell 0 1 rfl rfl
  have hsv := O3'.out.lt 0 rfl
  have hvs := H.out.size
  have hpv := H.out.lt 0 rfl
  go_region_law (refine step_append_at rfl (.tmp 15) (.tmp 17) 28 rfl w0.heap.size 34 i0 (.agg #[.int .i64 0, .int .i64 0, .int .i64 0, .int .i64 0, .bool false]) 5 40 Try.underlying28 hi.out hz0.out hz1.out hz2.out rfl (by decide) (.slice ao m.length cap) m.length (rows Ow.cells m) (by simp [Act.eval]) ((ho.out.alloc _).drew) ⟨u.heap.size, 0, none⟩ 1 1 [.int .i64 x.o, .int .i64 x.c, .int .i64 x.n, .int .i64 x.v, .bool x.b] (by simp [Act.eval]) rfl (new_cells u.drew _ _) (oone x) (by unfold maxLen; omega) (by omega) (by simp; omega) (by decide) ?_; intro g' c' w1 ho1 hg1 hv1; obtain ⟨M', hr, o4⟩ := Row.snoc (x := x) h2.out O3.out (by repeat (first | exact gb_refl _ _ | refine gb_drewN ?_ _ | refine gb_drew ?_ | refine gb_alloc ?_ _)) ho1 hg1 hv1; have c2 := (Own.mid.2 o4).cell 0 1 rfl rfl; have f2 := (Own.mid.2 o4).free 0 1 rfl; have HR := Lib.hid hr; have O4 := Lib.hid o4; clear ho1 hg1 hv1 hr o4)
  all_goals
    go_wp2
    (first | go_end0 | refine bodyPost_ret (results_none rfl _ _ _) rfl ?_)
    have X := SetS.putO h1.out HR.out O4.out
    exact ⟨rfl, X.drop (one_less _ _)⟩

set_option maxHeartbeats 1000000 in
theorem refput_in (w0 : World) (R : Blks) (s : Nat) (l : List Rd) (m : List Ow) (x : Ow) (k : Nat) (w : World) (h : Has (SB s l m) w0 w R) (hm : m.length ≤ 1000000) (hk : pl Ow.o x.o m = some k) (hkm : k < m.length) :
    Calls Try.prog 15 #[.pointer (some ⟨s, 0, none⟩), .agg #[.int .i64 x.o, .int .i64 x.c, .int .i64 x.n, .int .i64 x.v, .bool x.b]] w fun e w' => e = .returned (.tuple #[]) ∧ Hid (Has (SB s l (m.set k x)) w0 w' R) := by
  have H := Lib.hid (h.alloc 34 [.int .i64 x.o, .int .i64 x.c, .int .i64 x.n, .int .i64 x.v, .bool x.b])
  have hkm' : (k : Int) < (m.length : Int) := by omega
  have h0 : decide ((k : Int) < 0) = false := by first | (simp; done) | (simp; omega)
  have K := Lib.hid hkm
  clear h hkm
  go_enter Try.func15, Try.ntmps15
  go_upto_region 1 with fail
  generalize w.alloc _ = u at *
  generalize w.heap.size = p at *
  have F := Lib.hid (refO w0 _ s l m x.o u H.out (by omega))
  rw [hk] at F
  have x0 := H.out.cell 0 0 rfl rfl; have x1 := H.out.cell 0 1 rfl rfl; have x2 := H.out.cell 0 2 rfl rfl; have x3 := H.out.cell 0 3 rfl rfl; have x4 := H.out.cell 0 4 rfl rfl
  clear hk
  go_wp2_with fail
  refine F.out.mono ?_
  rintro e u2 ⟨rfl, rfl⟩
  simp only [pv]
  clear F
  go_upto_region 4 with fail
  obtain ⟨V, U, L, M, h1, h2, o3⟩ := SetS.openO H.out
  obtain ⟨g1, cap, rfl⟩ := h2.some (by have := K.out; omega)
  obtain ⟨y, hy⟩ : ∃ y, m[k]? = some y := ⟨_, List.getElem?_eq_getElem K.out⟩
  obtain ⟨b1, off1, e1, hb1, z0, z1, z2, z3, z4⟩ := at5 (IsL.of_own (h2.owns olen o3) olen rfl) hy
  cases e1
  simp only [Nat.zero_add] at z0 z1 z2 z3 z4
  have hf : ∀ j, u.frozen? ⟨g1, j, none⟩ = false := by
    obtain ⟨cur, hb, _⟩ := h2.open o3
    exact fun j => hb.free j
  have f0 := hf (k * 5); have f1 := hf (k * 5 + 1); have f2 := hf (k * 5 + 2); have f3 := hf (k * 5 + 3); have f4 := hf (k * 5 + 4)
  obtain ⟨M', hr, o4⟩ := set5 x h2 o3 K.out
  have HR := Lib.hid hr
  have O4 := Lib.hid o4
  have h1 := Lib.hid h1
  have O3' := Lib.hid (Own.mid.2 o3)
  clear o3 o4 hr hf hy h2
  have c1 := O3'.out.cell 0 1 rfl rfl
  go_region
  go_wp2
  (first | go_end0 | refine bodyPost_ret (results_none rfl _ _ _) rfl ?_)
  exact ⟨rfl, ((SetS.closeO h1.out HR.out O4.out).drop (one_less _ _)).drew⟩

set_option maxHeartbeats 1000000 in
theorem refdrop (w0 : World) (R : Blks) (s : Nat) (l : List Rd) (m : List Ow) (o : Int) (w : World) (h : Has (SB s l m) w0 w R) (hm : l.length ≤ 100000) :
    Calls Try.prog 12 #[.pointer (some ⟨s, 0, none⟩), .int .i64 o] w fun e w' => e = .returned (.tuple #[]) ∧ Hid (Has (SB s (flt o l) m) w0 w' R) := by
  obtain ⟨i0, hi0, hz00, hz10, hz20⟩ := info_parts infoRefR
  have hi := Lib.hid hi0
  have hz0 := Lib.hid hz00
  have hz1 := Lib.hid hz10
  have hz2 := Lib.hid hz20
  have H := Lib.hid h
  obtain ⟨n, hn⟩ : ∃ n, n = l.length := ⟨_, rfl⟩
  rw [← hn] at hm
  have HL := Lib.hid hn
  clear h hi0 hz00 hz10 hz20 hn
  go_enter Try.func12, Try.ntmps12
  go_wp2_with fail
  go_loopw [4, 5] (fun bv iv wr => ∃ (k N : Nat) (a : Option Addr) (c : Nat) (U : List Rd), k ≤ n ∧ iv = .int .i64 k ∧ Hid (U = flt o (l.take k)) ∧ bv = .slice a N c ∧ Hid (N = U.length) ∧ Hid (wr.ownsRow w.heap.size 32 3 (.slice a N c) N (rows Rd.cells U)) ∧ Hid (w.grownBy wr none)) (fun _ iv _ => (n - intOf iv).toNat)
  case atStart => exact ⟨0, 0, none, 0, [], by omega, rfl, rfl, rfl, rfl, World.ownsRow_nil _ _ _ _, gb_refl _ _⟩
  case round =>
    obtain ⟨k, N, a, c, U, hk, rfl, HU, rfl, HNL, O, G⟩ := hrel
    have H2 := Lib.hid (H.out.grown G.out)
    obtain ⟨a0, ca0, _, _, c0, _, i0', _⟩ := SetS.read H2.out
    rw [← HL.out] at c0
    have Z := Lib.hid i0'
    clear i0'
    by_cases hlt : k < n
    · obtain ⟨x, hx⟩ : ∃ x, l[k]? = some x := ⟨_, List.getElem?_eq_getElem (by rw [← HL.out]; exact hlt)⟩
      obtain ⟨b1, off1, rfl, hb1, d0, d1, d2⟩ := at3 Z.out hx
      have hlt' : (k : Int) < (n : Int) := by omega
      have HX := Lib.hid (flt_next (o := o) hx)
      have hN : N ≤ 100000 := by
        have h1 := HNL.out
        have h2 := flt_len o (l.take k)
        rw [HU.out] at h1
        rw [List.length_take] at h2
        omega
      by_cases ho : x.o = o
      · subst ho
        have HU2 := Lib.hid (show U = flt x.o (l.take (k + 1)) by rw [HX.out, if_pos rfl]; exact HU.out)
        clear hx HX
        go_wp2
        go_roundw
        case rel => exact ⟨k + 1, N, a, c, U, by omega, by go_num, HU2, rfl, HNL, O, G⟩
        case measure => simp [intOf]; omega
      · have HU2 := Lib.hid (show U ++ [x] = flt o (l.take (k + 1)) by rw [HX.out, if_neg ho, HU.out])
        have ho' : (x.o == o) = false := by simpa using ho
        clear hx HX ho
        have hbw := H2.out.size
        have hgs := G.out.size
        go_wp2_with (at_builtin; go_loud (refine wpList_append_any _ rfl (.tmp 25) (.tmp 33) 27 rfl w.heap.size 32 i0 (.agg #[.int .i64 0, .int .i64 0, .int .i64 0]) 3 24 Try.underlying27 hi.out hz0.out hz1.out hz2.out rfl (by decide) (.slice a N c) N (rows Rd.cells U) rfl (orow_grown O.out (by repeat (first | exact gb_refl _ _ | refine gb_drewN ?_ _ | refine gb_drew ?_ | refine gb_alloc ?_ _))) (some ⟨wr.heap.size, 0, none⟩) 1 1 [.int .i64 x.o, .int .i64 x.n, .int .i64 x.v] rfl rfl (new_src _ _ _ _ rfl) (rone x) (by unfold maxLen; omega) (by omega) (by simp; omega) ?_); intro b2 c2 w3 ho hg hv)
        have O3 : Hid (w3.ownsRow w.heap.size 32 3 (.slice b2 (N + 1) c2) (N + 1) (rows Rd.cells (U ++ [x]))) := by rw [rows_snoc]; exact ho
        have G3 := Lib.hid (gb_overO (gb_alloc G.out _) hg (fun i hi => (O.out.lt i hi).1))
        have HN3 := Lib.hid (show N + 1 = (U ++ [x]).length by rw [List.length_append, HNL.out]; rfl)
        clear ho hg hv
        go_roundw
        case rel => exact ⟨k + 1, N + 1, b2, c2, U ++ [x], by omega, by go_num, HU2, rfl, HN3, O3, G3⟩
        case measure => simp [intOf]; omega
    · obtain rfl : k = n := by omega
      have HF := Lib.hid (show U = flt o l by rw [HU.out, HL.out, List.take_length])
      have f0 := SetS.free H2.out 0
      have HS := Lib.hid (SetS.newR H.out G.out O.out (Nat.le_refl _) HNL.out)
      rw [HF.out] at HS
      go_wp2
      (first | go_end0 | refine bodyPost_ret (results_none rfl _ _ _) rfl ?_)
      exact ⟨rfl, HS.out⟩

end Go.Proofs.Ytfkfobloamambaa.rd
