/-
  HistPlaces: each access of a try of a right trace stands at its place, between its beginning and its end, rising, and is what stands there; and there are as many as readings and writings; for any list of events.
  Conditions: none (of more than 120 events, and of what isn't right, the law says nothing by itself).
-/
import Derived.Test.YtgnakcahmmdncaaRows
import Derived.Test.YtgnakcahmmdncaaHb
import Derived.Test.YtgnakcahmmdncaaHq
import Derived.Test.YtgnakcahmmdncaaOpenB
import Derived.Deep.QuietTactic
import Derived.BigQuiet
namespace Go.Proofs.Ytgnakcahmmdncaa.histPlaces
open Go.ChangeShapes Go.WideShapes Go.ChangeAt Go.RowKit Go.Proofs.Ytgnakcahmmdncaa.base Go.Proofs.Ytgnakcahmmdncaa.hs
set_option linter.unusedVariables false
set_option maxRecDepth 100000

theorem walk_out (a0 : Option Addr) (len0 cap0 : Nat) (w : World) (h : 120 < (len0 : Int)) : Calls Try.prog 7 #[.slice a0 len0 cap0] w fun e w' => e = .returned (.bool true) ∧ Below w.heap.size w w' := by
  go_enter Try.func7, Try.ntmps7
  go_wp2_with fail
  refine (alive_any _).mono ?_
  rintro e v1 ⟨rfl, g1⟩
  go_wp2
  go_ret
  exact ⟨rfl, gb_below g1.out⟩

theorem walk_wrong (a0 : Option Addr) (len0 cap0 : Nat) (e : Evs) (w : World) (h : len0 ≤ 120) (hl : IsEvs w a0 len0 e) (hr : right e len0 = false) : Calls Try.prog 7 #[.slice a0 len0 cap0] w fun e w' => e = .returned (.bool true) ∧ Below w.heap.size w w' := by
  have HL := Lib.hid hl
  have h120 : (len0 : Int) ≤ 120 := by omega
  clear hl
  go_enter Try.func7, Try.ntmps7
  go_wp2_with fail
  refine (alive_any _).mono ?_
  rintro r v1 ⟨rfl, g1⟩
  go_wp2_with fail
  refine (right_any a0 len0 cap0 e _ (HL.out.grown g1.out) (by omega)).mono ?_
  rw [hr]
  rintro r v2 ⟨rfl, g2⟩
  go_wp2
  go_ret
  exact ⟨rfl, gb_below (gb_trans g1.out g2.out)⟩

/-- Where the events lie. -/
theorem evs_at {w : World} {a : Option Addr} {n : Nat} {e : Evs} (h : IsEvs w a n e) (h0 : 0 < n) : ∃ b off, a = some ⟨b, off, none⟩ ∧ b < w.heap.size ∧ ∀ i, i < n → w.cell? ⟨b, off + i * 7, none⟩ = some (.int .i64 (e i).k) ∧ w.cell? ⟨b, off + i * 7 + 1, none⟩ = some (.int .i64 (e i).th) ∧ w.cell? ⟨b, off + i * 7 + 2, none⟩ = some (.int .i64 (e i).tx) ∧ w.cell? ⟨b, off + i * 7 + 3, none⟩ = some (.int .i64 (e i).at_) ∧ w.cell? ⟨b, off + i * 7 + 4, none⟩ = some (.int .i64 (e i).ob) ∧ w.cell? ⟨b, off + i * 7 + 5, none⟩ = some (.int .i64 (e i).va) ∧ w.cell? ⟨b, off + i * 7 + 6, none⟩ = some (.int .i64 (e i).re) := by
  rcases h with h | ⟨b, off, h1, h2, h3⟩
  · omega
  · refine ⟨b, off, h1, h2, fun i hi => ?_⟩
    have h4 := (h3 i hi).1
    exact ⟨h4 0 (by omega), h4 1 (by omega), h4 2 (by omega), h4 3 (by omega), h4 4 (by omega), h4 5 (by omega), h4 6 (by omega)⟩

/-- Where the fields of a try lie, and its accesses. -/
theorem tries_at {w : World} {a : Option Addr} {ys : List (Tr × Value)} (h : IsTries w a ys) (h0 : 0 < ys.length) : ∃ g, a = some ⟨g, 0, none⟩ ∧ g < w.heap.size ∧ ∀ i x, ys[i]? = some x → ∃ va vc, w.cell? ⟨g, i * 9, none⟩ = some (.int .i64 x.1.th) ∧ w.cell? ⟨g, i * 9 + 4, none⟩ = some (.int .i64 x.1.b) ∧ w.cell? ⟨g, i * 9 + 5, none⟩ = some (.int .i64 x.1.en) ∧ w.cell? ⟨g, i * 9 + 7, none⟩ = some (.bool x.1.co) ∧ w.cell? ⟨g, i * 9 + 8, none⟩ = some (.slice va x.1.ac.length vc) ∧ IsL accC w va x.1.ac := by
  obtain ⟨h1, h2⟩ := h
  rcases h1 with h1 | ⟨g, h1, hg, hc⟩
  · simp [h1] at h0
  · refine ⟨g, h1, hg, fun i x hx => ?_⟩
    have h3 := h2 x (List.mem_of_getElem? hx)
    obtain ⟨va, vc, hv⟩ := owns_slice h3
    rw [hv] at h3
    exact ⟨va, vc, hc i x hx 0 _ rfl, hc i x hx 4 _ rfl, hc i x hx 5 _ rfl, hc i x hx 7 _ rfl, by rw [← hv]; exact hc i x hx 8 _ rfl, IsL.of_own h3 accC_len rfl⟩

/-- An access, in its cells. -/
theorem acc_at {w : World} {va : Option Addr} {l : List Acc} (h : IsL accC w va l) {j : Nat} {a : Acc} (hj : l[j]? = some a) : ∃ b off, va = some ⟨b, off, none⟩ ∧ b < w.heap.size ∧ w.cell? ⟨b, off + j * 6, none⟩ = some (.int .i64 a.pl) ∧ w.cell? ⟨b, off + j * 6 + 1, none⟩ = some (.int .i64 a.k) ∧ w.cell? ⟨b, off + j * 6 + 2, none⟩ = some (.int .i64 a.ob) ∧ w.cell? ⟨b, off + j * 6 + 3, none⟩ = some (.int .i64 a.va) ∧ w.cell? ⟨b, off + j * 6 + 4, none⟩ = some (.bool a.own) ∧ w.cell? ⟨b, off + j * 6 + 5, none⟩ = some (.bool a.rel) := by
  obtain ⟨b, off, h1, h2, h3⟩ := h.at accC_len hj
  exact ⟨b, off, h1, h2, h3 0 _ rfl, h3 1 _ rfl, h3 2 _ rfl, h3 3 _ rfl, h3 4 _ rfl, h3 5 _ rfl⟩

set_option maxHeartbeats 4000000 in
theorem walk (a0 : Option Addr) (len0 cap0 : Nat) (z0 : Nat → Nat → Int) (w : World) (w0 : IsInts 7 w a0 len0 cap0 z0) : Calls Try.prog 7 #[.slice a0 len0 cap0] w fun e w' => e = .returned (.bool true) ∧ Below w.heap.size w w' := by
  by_cases hbig : 120 < (len0 : Int)
  · exact walk_out a0 len0 cap0 w hbig
  have hle : len0 ≤ 120 := by omega
  have h120 : (len0 : Int) ≤ 120 := by omega
  have HE := Lib.hid (isEvs_of w0)
  generalize (fun i => (⟨z0 i 0, z0 i 1, z0 i 2, z0 i 3, z0 i 4, z0 i 5, z0 i 6⟩ : Ev)) = e at *
  clear w0 hbig
  cases hr : right e len0 with
  | false => exact walk_wrong a0 len0 cap0 e w hle HE.out hr
  | true =>
  have HR := Lib.hid hr
  clear hr
  go_enter Try.func7, Try.ntmps7
  go_wp2_with fail
  refine (alive_any _).mono ?_
  rintro r v1 ⟨rfl, g1⟩
  have HE1 := Lib.hid (HE.out.grown g1.out)
  go_wp2_with fail
  refine (right_any a0 len0 cap0 e _ HE1.out (by omega)).mono ?_
  rw [HR.out]
  rintro r v2 ⟨rfl, g2⟩
  have HE2 := Lib.hid (HE1.out.grown g2.out)
  go_wp2_with fail
  refine (tries_right _ a0 len0 cap0 e HE2.out HR.out (by omega)).mono ?_
  rintro r v3 ⟨ax, cx, ys, rfl, HX, X2, X3, g3⟩
  have HE3 := Lib.hid (HE2.out.grown g3.out)
  have EX := Lib.hid (sorted_tries e X2.out X3.out)
  have GW := Lib.hid (gb_trans (gb_trans g1.out g2.out) g3.out)
  clear X2 X3 g1 g2 g3 HE HE1 HE2
  have hyl : ys.length = (tries e len0).length := by rw [← EX.out, List.length_map]
  have SUM := Lib.hid (show sumTo (tries e len0) ys.length = rws e len0 by rw [sumTo_all _ (Nat.le_of_eq hyl.symm), tries_sum e HR.out])
  have hy : ys.length ≤ 120 := by have := tries_n e len0; omega
  clear hyl
  have hy2 : (ys.length : Int) ≤ 120 := by omega
  go_wp2
  go_loopw [4, 5] (fun nv iv wr => ∃ k : Nat, k ≤ ys.length ∧ iv = .int .i64 k ∧ nv = .int .i64 (sumTo (tries e len0) k) ∧ Hid (v3.grownBy wr none)) (fun _ iv _ => (ys.length - intOf iv).toNat)
  case atStart => exact ⟨0, by omega, rfl, rfl, gb_refl _ _⟩
  case round =>
    obtain ⟨k, hk, rfl, rfl, G⟩ := hrel
    by_cases hlt : k < ys.length
    · have hlt' : (k : Int) < (ys.length : Int) := by omega
      obtain ⟨g, rfl, hg, fy⟩ := tries_at HX.out (show 0 < ys.length by omega)
      obtain ⟨va, vc, y0, y4, y5, y7, y8, YL⟩ := fy k ys[k] (List.getElem?_eq_getElem hlt)
      have ht : (tries e len0)[k]? = some ys[k].1 := by rw [← EX.out, List.getElem?_map, List.getElem?_eq_getElem hlt]; rfl
      clear fy
      generalize ys[k].1 = x at *
      obtain ⟨b, hb, hbn, hb1, hth, hac, hen⟩ := try_is e HR.out ht
      have HAC := Lib.hid hac
      have STEP := Lib.hid (show sumTo (tries e len0) (k + 1) = sumTo (tries e len0) k + x.ac.length by rw [sumTo, ht])
      have hsum : (sumTo (tries e len0) k : Int) + (x.ac.length : Int) ≤ 120 := by
        have h1 := STEP.out
        have h2 := sumTo_mono (tries e len0) (k + 1) (ys.length - (k + 1))
        rw [show k + 1 + (ys.length - (k + 1)) = ys.length by omega, SUM.out] at h2
        have h3 := rws_le e len0
        omega
      clear ht
      obtain ⟨eb, off, rfl, heb, fe0⟩ := evs_at HE3.out (show 0 < len0 by omega)
      have fe := Lib.hid fe0
      clear fe0
      have YL := Lib.hid YL
      rw [hb] at y4
      rw [hth] at y0
      have hbn' : (b : Int) < (len0 : Int) := by omega
      have fb : decide (len0 ≤ b) = false := by simpa using hbn
      have fb0 : decide ((b : Int) < 0) = false := by simp
      have Y0 := Lib.hid y0
      have Y4 := Lib.hid y4
      have Y8 := Lib.hid y8
      clear y0 y4 y8
      have hlac : (x.ac.length : Int) ≤ 120 := by omega
      rcases hac.2.2 with hE | ⟨q, hE, hq⟩
      · rw [hE] at y5
        have Y5 := Lib.hid y5
        have fq : decide ((len0 : Int) ≤ -1) = false := by simp; omega
        have fq0 : decide ((0 : Int) ≤ -1) = false := by decide
        have z4 := G.out.cell Y4.out (by simp)
        have z5 := G.out.cell y5 (by simp)
        have z7 := G.out.cell y7 (by simp)
        have b0 := G.out.cell (fe.out b hbn).1 (by simp)
        rw [hb1] at b0
        clear hen hac y5 y7
        go_wp2_with fail
        go_big_quiet (fail)
        go_wp2
        have GN := Lib.hid (gb_drewN G.out nq)
        clear z4 z5 z7 b0
        generalize wr.drewN nq = u1 at *
        go_loopw [6, 7] (fun lv kv wr => ∃ (j : Nat) (La : Int), j ≤ x.ac.length ∧ kv = .int .i64 j ∧ lv = .int .i64 La ∧ Hid (∀ a, x.ac[j]? = some a → La < a.pl) ∧ Hid (v3.grownBy wr none)) (fun _ kv _ => (x.ac.length - intOf kv).toNat)
        case atStart => exact ⟨0, b, by omega, rfl, rfl, fun a ha => by obtain ⟨p, p1, p2, _⟩ := HAC.out.1 a (List.mem_of_getElem? ha); omega, GN⟩
        case round =>
          obtain ⟨j, La, hj, rfl, rfl, HLa, G2⟩ := hrel
          have z8 := G2.out.cell Y8.out (by simp)
          by_cases hjl : j < x.ac.length
          · have hjl' : (j : Int) < (x.ac.length : Int) := by omega
            obtain ⟨ga, oa, rfl, hga, d0, d1, d2, d3, d4, d5⟩ := acc_at (YL.out.grown G2.out) (List.getElem?_eq_getElem hjl)
            have HA := HAC.out.1 x.ac[j] (List.getElem_mem hjl)
            have HP := HLa.out x.ac[j] (List.getElem?_eq_getElem hjl)
            have HN := Lib.hid (show ∀ a, x.ac[j + 1]? = some a → x.ac[j].pl < a.pl from fun a ha => by
              obtain ⟨h1, rfl⟩ := List.getElem?_eq_some_iff.1 ha
              exact List.pairwise_iff_getElem.1 HAC.out.2.1 j (j + 1) hjl h1 (by omega))
            generalize x.ac[j] = a at *
            obtain ⟨p, p1, p2, p3, p4, p5, p6, p7, p8⟩ := HA
            have P1 := Lib.hid p1
            obtain ⟨c0, c1, c2, c3, c4, c5, c6⟩ := fe.out p p3
            rw [p7] at c1
            replace c0 := G2.out.cell c0 (by simp)
            replace c1 := G2.out.cell c1 (by simp)
            replace c2 := G2.out.cell c2 (by simp)
            replace c3 := G2.out.cell c3 (by simp)
            replace c4 := G2.out.cell c4 (by simp)
            replace c5 := G2.out.cell c5 (by simp)
            replace c6 := G2.out.cell c6 (by simp)
            rw [p1] at d0 HP
            rw [← p4] at d1
            rw [← p5] at d2
            rw [← p6] at d3
            have p3' : (p : Int) < (len0 : Int) := by omega
            have fp1 : decide ((p : Int) ≤ La) = false := by simpa using HP
            have fp2 : decide (len0 ≤ p) = false := by simpa using p3
            have z5 := G2.out.cell Y5.out (by simp)
            have z0 := G2.out.cell Y0.out (by simp)
            have hg2 : g < wr.heap.size := Nat.lt_of_lt_of_le hg G2.out.size
            have heb2 : eb < wr.heap.size := Nat.lt_of_lt_of_le heb G2.out.size
            clear p1 p2 p4 p5 p6 p7 p8 HP
            go_wp2_with fail
            go_big_quiet (fail)
            go_wp2_with fail
            go_big_quiet (fail)
            go_wp2
            go_roundw
            case rel => exact ⟨j + 1, p, by omega, by go_num, rfl, fun a' ha => by rw [← P1.out]; exact HN.out a' ha, gb_drewN (gb_alloc (gb_drewN (gb_alloc G2.out _) _) _) _⟩
            case measure => simp [intOf]; omega
          · obtain rfl : j = x.ac.length := by omega
            go_wp2
            go_roundw
            case rel => exact ⟨k + 1, by omega, by go_num, by rw [STEP.out]; go_num, G2⟩
            case measure => simp [intOf]; omega
      · rw [hE] at y5
        have Y5 := Lib.hid y5
        obtain ⟨hqn, hco⟩ := hen q hE
        have hqn' : (q : Int) < (len0 : Int) := by omega
        have hco2 : x.co = ((e q).k == 5) := by rw [Bool.eq_iff_iff, hco]; simp
        rw [hco2] at y7
        have q0 := G.out.cell (fe.out q hqn).1 (by simp)
        have fq : decide (len0 ≤ q) = false := by simpa using hqn
        have fq0 : (0 : Int) ≤ (q : Int) := by omega
        clear hco hco2
        have z4 := G.out.cell Y4.out (by simp)
        have z5 := G.out.cell y5 (by simp)
        have z7 := G.out.cell y7 (by simp)
        have b0 := G.out.cell (fe.out b hbn).1 (by simp)
        rw [hb1] at b0
        clear hen hac y5 y7
        go_wp2_with fail
        go_big_quiet (fail)
        go_wp2
        have GN := Lib.hid (gb_drewN G.out nq)
        clear z4 z5 z7 b0
        generalize wr.drewN nq = u1 at *
        go_loopw [6, 7] (fun lv kv wr => ∃ (j : Nat) (La : Int), j ≤ x.ac.length ∧ kv = .int .i64 j ∧ lv = .int .i64 La ∧ Hid (∀ a, x.ac[j]? = some a → La < a.pl) ∧ Hid (v3.grownBy wr none)) (fun _ kv _ => (x.ac.length - intOf kv).toNat)
        case atStart => exact ⟨0, b, by omega, rfl, rfl, fun a ha => by obtain ⟨p, p1, p2, _⟩ := HAC.out.1 a (List.mem_of_getElem? ha); omega, GN⟩
        case round =>
          obtain ⟨j, La, hj, rfl, rfl, HLa, G2⟩ := hrel
          have z8 := G2.out.cell Y8.out (by simp)
          by_cases hjl : j < x.ac.length
          · have hjl' : (j : Int) < (x.ac.length : Int) := by omega
            obtain ⟨ga, oa, rfl, hga, d0, d1, d2, d3, d4, d5⟩ := acc_at (YL.out.grown G2.out) (List.getElem?_eq_getElem hjl)
            have HA := HAC.out.1 x.ac[j] (List.getElem_mem hjl)
            have HP := HLa.out x.ac[j] (List.getElem?_eq_getElem hjl)
            have HN := Lib.hid (show ∀ a, x.ac[j + 1]? = some a → x.ac[j].pl < a.pl from fun a ha => by
              obtain ⟨h1, rfl⟩ := List.getElem?_eq_some_iff.1 ha
              exact List.pairwise_iff_getElem.1 HAC.out.2.1 j (j + 1) hjl h1 (by omega))
            generalize x.ac[j] = a at *
            obtain ⟨p, p1, p2, p3, p4, p5, p6, p7, p8⟩ := HA
            have P1 := Lib.hid p1
            obtain ⟨c0, c1, c2, c3, c4, c5, c6⟩ := fe.out p p3
            rw [p7] at c1
            replace c0 := G2.out.cell c0 (by simp)
            replace c1 := G2.out.cell c1 (by simp)
            replace c2 := G2.out.cell c2 (by simp)
            replace c3 := G2.out.cell c3 (by simp)
            replace c4 := G2.out.cell c4 (by simp)
            replace c5 := G2.out.cell c5 (by simp)
            replace c6 := G2.out.cell c6 (by simp)
            rw [p1] at d0 HP
            rw [← p4] at d1
            rw [← p5] at d2
            rw [← p6] at d3
            have p3' : (p : Int) < (len0 : Int) := by omega
            have fp1 : decide ((p : Int) ≤ La) = false := by simpa using HP
            have fp2 : decide (len0 ≤ p) = false := by simpa using p3
            have fp3 : decide (q ≤ p) = false := by
              have := p8 (by omega)
              simp
              omega
            have z5 := G2.out.cell Y5.out (by simp)
            have z0 := G2.out.cell Y0.out (by simp)
            have hg2 : g < wr.heap.size := Nat.lt_of_lt_of_le hg G2.out.size
            have heb2 : eb < wr.heap.size := Nat.lt_of_lt_of_le heb G2.out.size
            clear p1 p2 p4 p5 p6 p7 p8 HP
            go_wp2_with fail
            go_big_quiet (fail)
            go_wp2_with fail
            go_big_quiet (fail)
            go_wp2
            go_roundw
            case rel => exact ⟨j + 1, p, by omega, by go_num, rfl, fun a' ha => by rw [← P1.out]; exact HN.out a' ha, gb_drewN (gb_alloc (gb_drewN (gb_alloc G2.out _) _) _) _⟩
            case measure => simp [intOf]; omega
          · obtain rfl : j = x.ac.length := by omega
            go_wp2
            go_roundw
            case rel => exact ⟨k + 1, by omega, by go_num, by rw [STEP.out]; go_num, G2⟩
            case measure => simp [intOf]; omega
    · obtain rfl : k = ys.length := by omega
      rw [SUM.out]
      have hrl : (rws e len0 : Int) ≤ 120 := by have := rws_le e len0; omega
      have G0 := Lib.hid G.out
      go_wp2
      go_loopw [10, 11] (fun mv iv wr => ∃ k : Nat, k ≤ len0 ∧ iv = .int .i64 k ∧ mv = .int .i64 (rws e k) ∧ Hid (v3.grownBy wr none)) (fun _ iv _ => (len0 - intOf iv).toNat)
      case atStart => exact ⟨0, by omega, rfl, rfl, G0.out⟩
      case round =>
        obtain ⟨k, hk, rfl, rfl, G2⟩ := hrel
        have hbk := rws_le e k
        have hb2 : (rws e k : Int) < 1000 := by omega
        by_cases hlt : k < len0
        · obtain ⟨b0, off, rfl, hb0, c0, c1, c2, c3, c4, c5, c6, we⟩ := (HE3.out.grown G2.out).at7 hlt
          have hlt' : (k : Int) < (len0 : Int) := by omega
          by_cases h2 : (e k).k = 2
          · have HB := Lib.hid (show rws e (k + 1) = rws e k + 1 by rw [rws, if_pos (.inl h2)])
            rw [h2] at c0
            go_wp2
            go_roundw
            case rel => exact ⟨k + 1, by omega, by go_num, by rw [HB.out]; go_num, G2⟩
            case measure => simp [intOf]; omega
          · have f2 : ((e k).k == 2) = false := by simp [h2]
            by_cases h3 : (e k).k = 3
            · have HB := Lib.hid (show rws e (k + 1) = rws e k + 1 by rw [rws, if_pos (.inr h3)])
              rw [h3] at c0
              clear f2
              go_wp2
              go_roundw
              case rel => exact ⟨k + 1, by omega, by go_num, by rw [HB.out]; go_num, G2⟩
              case measure => simp [intOf]; omega
            · have f3 : ((e k).k == 3) = false := by simp [h3]
              have HB := Lib.hid (show rws e (k + 1) = rws e k by rw [rws, if_neg (by simp [h2, h3])]; rfl)
              clear h2 h3
              go_wp2
              go_roundw
              case rel => exact ⟨k + 1, by omega, by go_num, by rw [HB.out], G2⟩
              case measure => simp [intOf]; omega
        · obtain rfl : k = len0 := by omega
          go_wp2
          go_ret
          exact ⟨by simp, gb_below (gb_trans GW.out G2.out)⟩

theorem own : ownKnob Try.prog.godebug = none := by kernel_rfl
theorem laidOut : laidOutB Try.prog = true := by kernel_rfl

/-! ### THE ROW's STEP, as the guide has it -/
set_option maxRecDepth 100000 in
theorem lifted (os : Os) (started : os.Started) (H : Type) (enc : TypeId × Value → H) :
    ReturnsInHanded {} Try.checked os 7 .any (Rows.histPlacesSpec.pre6 enc Try.prog Try.f7 Rows.histPlacesRow.domain false) (Rows.histPlacesSpec.post enc Try.prog Try.f7 false true false false) := by
  refine returnsInHanded_of_change (C := Try.checked) own started (by kernel_rfl) Try.func7
    (ChangeSpec.witness6 (enc := enc) (C := Try.checked) false ⟨#[], #[.slice none 0 0], []⟩ 8 (by kernel_rfl) (by kernel_rfl) (by kernel_rfl) (by kernel_rfl)) ?_
  intro W base args ds gs before hval0 hW hcnd _
  have hval : ∀ (j : Nat) t v, Try.f7.params[j]? = some t → args[j]? = some v → Value.okWide Try.prog W .any base t v := hval0
  have hW' := hW
  obtain ⟨p, q, hA0, hV, rfl, hfz, hnd⟩ := hW
  have hA : DataW.TrodAll enc Try.prog W 0 (fun _ => true) true Try.f7.params.toList args.toList ds p := hA0
  rw [Try.params7] at hA hval
  obtain ⟨v0, vs0, d0, ds0, p0, q0, hargs, rfl, rfl, h0, r0⟩ := trodAll_cons hA
  obtain ⟨rfl, rfl, rfl⟩ := trodAll_nil r0
  obtain rfl : args = #[v0] := by cases args; simp_all
  obtain ⟨rfl, rfl⟩ := trodVars_none hV
  obtain ⟨a0, len0, cap0, rfl⟩ := okWide_slice Try.underlying22 (hval 0 22 v0 rfl rfl)
  have k0 := h0
  have lt0 : ∀ x ∈ p0, x.block < W.heap.size := by obtain ⟨m, hm⟩ := k0; exact DataW.trod_lt m _ _ _ hm
  obtain ⟨z0, w0⟩ : ∃ z, IsInts 7 W a0 len0 cap0 z := by
    obtain ⟨fuel, hf⟩ := h0
    exact isMixed_of Try.underlying22 Try.underlying36 Try.underlying3 Try.underlying2 (by kernel_rfl) (by kernel_rfl) (by kernel_rfl) (by decide) (by decide) hf
  clear hA0 hval0
  refine (walk a0 len0 cap0 z0 W w0).mono fun e W' ⟨he, bel⟩ => ?_
  subst he
  exact ⟨_, rfl, _, _, _, [], _, [], hW', trodAll_mk1 (shut_bool Try.underlying4 _), (trodAll_cons_mk (Below.trod laidOut (by kernel_rfl) (of_decide_eq_true (by kernel_rfl)) k0 bel lt0) trodAll_mk0), rfl, bel.frame _, fun h => by cases h⟩

theorem over : Rows.histPlacesRow.holds Try.pinned (OpenSpec.ofChange Rows.histPlacesSpec) :=
  OpenClaim.holds_of_wide 7 Try.f7 rfl rfl rfl rfl rfl rfl rfl ⟨rfl, rfl, rfl, rfl, rfl⟩ rfl rfl rfl rfl rfl (by kernel_rfl) Try.func7 (by kernel_rfl)
    (of_decide_eq_true (by kernel_rfl)) (by unfold Func.isWrapper; first | (rw [if_pos (by decide +kernel)]; kernel_rfl) | (rw [if_neg (by decide +kernel)]; exact ⟨rfl, rfl⟩))
    (fun os started H enc _ => lifted os started H enc)

theorem proved : Rows.HistPlacesSaid := over
#print axioms proved
end Go.Proofs.Ytgnakcahmmdncaa.histPlaces
