/- The document's own answers of chapter 18: Fits. -/
import Derived.Test.YtdohepenmejcaaaMq
namespace Go.Proofs.Ytdohepenmejcaaa.md
open Go Go.RowKit Go.Proofs.Ytdohepenmejcaaa.base Go.Proofs.Ytdohepenmejcaaa.hs Go.Proofs.Ytdohepenmejcaaa.lg Go.Maps
set_option linter.unusedVariables false
set_option maxRecDepth 100000

set_option maxHeartbeats 4000000 in
theorem reffits_any (a : Option Addr) (n c : Nat) (z : Nat → Int) (t : Tr) (av : Option Addr) (vc : Nat) (w : World) (hz : IsNums .i64 w a n z) (hl : IsL accC w av t.ac) (hn : n ≤ 100000) (hm : t.ac.length ≤ 100000) :
    Calls Try.prog 19 #[.slice a n c, .agg ⟨trC t (.slice av t.ac.length vc)⟩] w fun r w' => r = .returned (.bool (fits n z t.ac)) ∧ Hid (w.grownBy w' none) := by
  have HZ := Lib.hid hz
  have HL := Lib.hid hl
  clear hz hl
  have BT := Lib.hid (Blk.made w 36 #[.int .i64 t.th, .int .i64 t.tx, .int .i64 t.at_, .int .i64 t.st, .int .i64 t.b, .int .i64 t.en, .int .i64 t.re, .bool t.co, .slice av t.ac.length vc])
  have GA := Lib.hid (World.grownBy_alloc w (.cells #[.int .i64 t.th, .int .i64 t.tx, .int .i64 t.at_, .int .i64 t.st, .int .i64 t.b, .int .i64 t.en, .int .i64 t.re, .bool t.co, .slice av t.ac.length vc] 36) none)
  show Calls Try.prog 19 #[.slice a n c, .agg #[.int .i64 t.th, .int .i64 t.tx, .int .i64 t.at_, .int .i64 t.st, .int .i64 t.b, .int .i64 t.en, .int .i64 t.re, .bool t.co, .slice av t.ac.length vc]] w _
  go_enter Try.func19, Try.ntmps19
  go_wp2
  generalize w.alloc _ = w1 at *
  generalize hbt : w.heap.size = bt at *
  go_loopw [5] (fun iv wr => ∃ k : Nat, k ≤ t.ac.length ∧ iv = .int .i64 k ∧ Hid (fitsN n z t.ac k = true) ∧ Hid (w1.grownBy wr none)) (fun iv _ => (t.ac.length - intOf iv).toNat)
  case atStart => exact ⟨0, by omega, rfl, rfl, gb_refl _ _⟩
  case round =>
    obtain ⟨k, hk, rfl, HF, G⟩ := hrel
    have B1 := Lib.hid (BT.out.grown G.out (by simp))
    have hbl := B1.out.lt
    have q8 := B1.out.at 8 rfl
    by_cases hlt : k < t.ac.length
    · have hlt' : (k : Int) < (t.ac.length : Int) := by omega
      have hk6 : (k : Int) < 1000000 := by omega
      have hgk := List.getElem?_eq_getElem hlt
      obtain ⟨b1, o1, rfl, hb1, c0, c1, c2, c3, c4, c5⟩ := acc6 ((HL.out.grown GA.out).grown G.out) hgk
      have HST := Lib.hid (fitsN_step (n := n) (z := z) hgk)
      have HBAD := Lib.hid (fun h => fits_bad (n := n) (z := z) hgk h)
      generalize t.ac[k] = y at *
      clear hgk
      obtain ⟨pl, ak, ob, va, own, rel⟩ := y
      dsimp only at HST HBAD c0 c1 c2 c3 c4 c5
      have G1 := Lib.hid (World.grownBy_alloc wr (.cells #[.int .i64 pl, .int .i64 ak, .int .i64 ob, .int .i64 va, .bool own, .bool rel] 65) none)
      have EB := Lib.hid (Blk.made wr 65 #[.int .i64 pl, .int .i64 ak, .int .i64 ob, .int .i64 va, .bool own, .bool rel])
      by_cases h2 : ak = 2
      · have f2 : (ak != 2) = false := by simp [h2]
        cases rel with
        | true =>
          have HN := Lib.hid (show fitsN n z t.ac (k + 1) = true by rw [HST.out, HF.out]; unfold readOk; rw [if_neg (by simp)]; rfl)
          clear h2 HST HBAD
          go_wp2
          go_roundw
          (case rel => exact ⟨k + 1, by omega, by go_num, HN, gb_trans G.out G1.out⟩); (case measure => simp [intOf]; omega)
        | false =>
          have HOK := Lib.hid (show readOk n z (lastW (t.ac.take k) ob) ⟨pl, ak, ob, va, own, false⟩ = tellsB n z (lastW (t.ac.take k) ob) ⟨pl, ak, ob, va, own, false⟩ by unfold readOk; rw [if_pos ⟨h2, rfl⟩])
          clear h2
          go_wp2
          generalize wr.alloc _ = w2 at *
          generalize hba : wr.heap.size = ba at *
          clear c0 c1 c2 c3 c4 c5 q8 hb1 hba
          have B2 := Lib.hid (B1.out.grown G1.out (by simp))
          have HL2 := Lib.hid (((HL.out.grown GA.out).grown G.out).grown G1.out)
          go_loopw [7, 8, 9] (fun wv mv jv wr => ∃ (j : Nat) (wt : Int) (mi : Bool), j ≤ k ∧ jv = .int .i64 j ∧ wv = .int .i64 wt ∧ mv = .bool mi ∧ Hid (lastW (t.ac.take j) ob = if mi = true then some wt else none) ∧ Hid (w2.grownBy wr none)) (fun _ _ jv _ => (k - intOf jv).toNat)
          case atStart => exact ⟨0, 0, false, by omega, rfl, rfl, rfl, rfl, gb_refl _ _⟩
          case round =>
            obtain ⟨j, wt, mi, hj, rfl, rfl, rfl, HW, GQ⟩ := hrel
            have B3 := Lib.hid (B2.out.grown GQ.out (by simp))
            have E3 := Lib.hid (EB.out.grown GQ.out (by simp))
            have hbl3 := B3.out.lt
            have hel3 := E3.out.lt
            have q8 := B3.out.at 8 rfl; have e0 := E3.out.at 0 rfl; have e1 := E3.out.at 1 rfl; have e2 := E3.out.at 2 rfl; have e3 := E3.out.at 3 rfl; have e4 := E3.out.at 4 rfl; have e5 := E3.out.at 5 rfl
            by_cases hjk : j < k
            · have hjk' : (j : Int) < (k : Int) := by omega
              have hj6 : (j : Int) < 1000000 := by omega
              have hjl : (j : Int) < (t.ac.length : Int) := by omega
              have hgj := List.getElem?_eq_getElem (show j < t.ac.length by omega)
              obtain ⟨b2, o2, hav, hb2, d0, d1, d2, d3, d4, d5⟩ := acc6 (HL2.out.grown GQ.out) hgj
              cases hav
              have HT := Lib.hid (lastW_take hgj ob)
              generalize t.ac[j] = x at *
              clear hgj
              by_cases h3 : x.k = 3
              · have f3 : (x.k == 3) = true := by simp [h3]
                by_cases h4 : x.ob = ob
                · have f4 : (x.ob == ob) = true := by simp [h4]
                  have HN := Lib.hid (show lastW (t.ac.take (j + 1)) ob = some x.va by rw [HT.out, if_pos ⟨h3, h4⟩])
                  clear h3 h4
                  go_wp2_with fail
                  go_quiet (fail)
                  go_wp2
                  go_roundw
                  case rel => exact ⟨j + 1, x.va, true, by omega, by go_num, rfl, rfl, HN, gb_drewN GQ.out _⟩
                  case measure => simp [intOf]; omega
                · have f4 : (x.ob == ob) = false := by simp [h4]
                  have HN := Lib.hid (show lastW (t.ac.take (j + 1)) ob = if mi = true then some wt else none by rw [HT.out, if_neg (fun h => h4 h.2)]; exact HW.out)
                  clear h3 h4
                  go_wp2_with fail
                  go_quiet (fail)
                  go_wp2
                  go_roundw
                  case rel => exact ⟨j + 1, wt, mi, by omega, by go_num, rfl, rfl, HN, gb_drewN GQ.out _⟩
                  case measure => simp [intOf]; omega
              · have f3 : (x.k == 3) = false := by simp [h3]
                have HN := Lib.hid (show lastW (t.ac.take (j + 1)) ob = if mi = true then some wt else none by rw [HT.out, if_neg (fun h => h3 h.1)]; exact HW.out)
                clear h3
                go_wp2_with fail
                go_quiet (fail)
                go_wp2
                go_roundw
                case rel => exact ⟨j + 1, wt, mi, by omega, by go_num, rfl, rfl, HN, gb_drewN GQ.out _⟩
                case measure => simp [intOf]; omega
            · obtain rfl : j = k := by omega
              have GG := Lib.hid (gb_trans G1.out GQ.out)
              clear HL2 B2 q8
              cases mi with
              | true =>
                have HL0 : lastW (t.ac.take j) ob = some wt := HW.out
                rw [HL0] at HOK HST HBAD
                have HOK2 := Lib.hid HOK.out
                cases own with
                | true =>
                  by_cases h5 : va = wt
                  · have f5 : (wt != va) = false := by simp [h5]
                    have HN := Lib.hid (show fitsN n z t.ac (j + 1) = true by rw [HST.out, HF.out, HOK.out]; simp [tellsB, h5])
                    clear h5 HL0 HST HBAD HOK HOK2 HW
                    go_wp2
                    go_roundw
                    (case rel => exact ⟨j + 1, by omega, by go_num, HN, gb_trans G.out GG.out⟩); (case measure => simp [intOf]; omega)
                  · have f5 : (wt != va) = true := by simp; omega
                    have HN := Lib.hid (show fits n z t.ac = false from HBAD.out (by rw [HOK.out]; simp [tellsB, h5]))
                    clear h5 HL0 HST HBAD HOK HOK2 HW
                    go_wp2
                    go_ret; exact ⟨by rw [HN.out]; rfl, gb_trans (gb_trans GA.out G.out) GG.out⟩
                | false =>
                  have HN := Lib.hid (show fits n z t.ac = false from HBAD.out (by rw [HOK.out]; simp [tellsB]))
                  clear HL0 HST HBAD HOK HOK2 HW
                  go_wp2
                  go_ret; exact ⟨by rw [HN.out]; rfl, gb_trans (gb_trans GA.out G.out) GG.out⟩
              | false =>
                have HL0 : lastW (t.ac.take j) ob = none := HW.out
                rw [HL0] at HOK HST HBAD
                by_cases h6 : ob < 0
                · have HN := Lib.hid (show fits n z t.ac = false from HBAD.out (by rw [HOK.out]; simp [tellsB, show ¬ (0 : Int) ≤ ob by omega]))
                  clear HL0 HST HBAD HOK HW
                  go_wp2
                  go_ret; exact ⟨by rw [HN.out]; rfl, gb_trans (gb_trans GA.out G.out) GG.out⟩
                · have f6 : decide (ob < 0) = false := by simpa using h6
                  by_cases h7 : (n : Int) ≤ ob
                  · have HN := Lib.hid (show fits n z t.ac = false from HBAD.out (by rw [HOK.out]; simp [tellsB, show ¬ ob < (n : Int) by omega]))
                    clear HL0 HST HBAD HOK HW h6
                    go_wp2
                    go_ret; exact ⟨by rw [HN.out]; rfl, gb_trans (gb_trans GA.out G.out) GG.out⟩
                  · have f7 : decide ((n : Int) ≤ ob) = false := by simpa using h7
                    go_upto_region 16 with fail
                    obtain ⟨i, rfl⟩ : ∃ i : Nat, ob = (i : Int) := ⟨ob.toNat, by omega⟩
                    have hi : i < n := by omega
                    have hi' : (i : Int) < (n : Int) := by omega
                    obtain ⟨zb, zo, rfl, hzb, cz⟩ := (((HZ.out.grown GA.out).grown G.out).grown GG.out).at1 hi
                    have HTB := Lib.hid (show tellsB n z none ⟨pl, ak, i, va, own, false⟩ = (!own && va == z i) by simp [tellsB, hi])
                    rw [HTB.out] at HOK
                    clear HL0 h6 h7 f6 f7 HTB
                    generalize z i = zi at *
                    cases own with
                    | true =>
                      have HN := Lib.hid (show fits n z t.ac = false from HBAD.out (by rw [HOK.out]; rfl))
                      clear HST HBAD HOK HW
                      go_wp2
                      go_ret; exact ⟨by rw [HN.out]; rfl, gb_trans (gb_trans GA.out G.out) GG.out⟩
                    | false =>
                      by_cases h5 : va = zi
                      · have f5 : (zi != va) = false := by simp [h5]
                        have HN := Lib.hid (show fitsN n z t.ac (j + 1) = true by rw [HST.out, HF.out, HOK.out]; simp [h5])
                        clear h5 HST HBAD HOK HW
                        go_wp2
                        go_roundw
                        (case rel => exact ⟨j + 1, by omega, by go_num, HN, gb_trans G.out GG.out⟩); (case measure => simp [intOf]; omega)
                      · have f5 : (zi != va) = true := by simp; omega
                        have HN := Lib.hid (show fits n z t.ac = false from HBAD.out (by rw [HOK.out]; simp [h5]))
                        clear h5 HST HBAD HOK HW
                        go_wp2
                        go_ret; exact ⟨by rw [HN.out]; rfl, gb_trans (gb_trans GA.out G.out) GG.out⟩
      · have f2 : (ak != 2) = true := by simp [h2]
        have HN := Lib.hid (show fitsN n z t.ac (k + 1) = true by rw [HST.out, HF.out]; unfold readOk; rw [if_neg (fun h => h2 h.1)]; rfl)
        clear h2 HST HBAD
        go_wp2
        go_roundw
        (case rel => exact ⟨k + 1, by omega, by go_num, HN, gb_trans G.out G1.out⟩); (case measure => simp [intOf]; omega)
    · obtain rfl : k = t.ac.length := by omega
      go_wp2
      go_ret
      exact ⟨by rw [show fits n z t.ac = true from HF.out]; rfl, gb_trans GA.out G.out⟩
end Go.Proofs.Ytdohepenmejcaaa.md
