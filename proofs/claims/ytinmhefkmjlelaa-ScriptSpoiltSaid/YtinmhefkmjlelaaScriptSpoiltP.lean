/-
  ScriptSpoilt: bytes with a config that may not be are refused at once, at 0, whatever stands behind, and with too little room at 2; for any script, any spoiling and any more bytes.
  Conditions: none (of more than the law goes through, it says nothing by itself).
-/
import Derived.Test.YtinmhefkmjlelaaPz
import Derived.Test.YtinmhefkmjlelaaRows
import Derived.Deep.QuietTactic
import Derived.Deep.RegionHeld3
import Derived.BigQuiet
namespace Go.Proofs.Ytinmhefkmjlelaa.scriptSpoilt
open Go.ChangeShapes Go.WideShapes Go.ChangeAt Go.RowKit Go.Proofs.Ytinmhefkmjlelaa.base Go.Proofs.Ytinmhefkmjlelaa.lg Go.Proofs.Ytinmhefkmjlelaa.md Go.Proofs.Ytinmhefkmjlelaa.sc
set_option linter.unusedVariables false
set_option maxRecDepth 100000
set_option linter.unusedSimpArgs false

set_option maxHeartbeats 4000000 in
theorem walkIn (co ct cr ck cm cw : Int) (f d p : List Int) (A : List (List (List Op3))) (fa : Option Addr) (fc : Nat) (da : Option Addr) (dc : Nat) (aa : Option Addr) (ac : Nat) (pa : Option Addr) (pc : Nat) (a1 : Int) (a2 : Option Addr) (cap2 : Nat) (M : List Int) (w : World) (hs : ScrAt w ⟨⟨co, ct, cr, ck, cm, cw⟩, f, d, A, p⟩ (.slice fa f.length fc) (.slice da d.length dc) (.slice aa A.length ac) (.slice pa p.length pc)) (hd : Bytes d) (hM : IsNums .u8 w a2 M.length (at0 M)) (hMb : Bytes M) (ha : 0 ≤ a1 ∧ a1 ≤ 255) : Calls Try.prog 8 #[.agg #[.int .i64 co, .int .i64 ct, .int .i64 cr, .int .i64 ck, .int .i64 cm, .int .i64 cw, .slice fa f.length fc, .slice da d.length dc, .slice aa A.length ac, .slice pa p.length pc], .int .u8 a1, .slice a2 M.length cap2] w fun e w' => e = .returned (.bool true) ∧ Below w.heap.size w w' := by
  have HM := Lib.hid hM
  have HMB := Lib.hid hMb
  have HD := Lib.hid hd
  clear hM hMb hd
  have O1 : Hid (Own w (w.alloc (.cells #[.int .i64 co, .int .i64 ct, .int .i64 cr, .int .i64 ck, .int .i64 cm, .int .i64 cw, .slice fa f.length fc, .slice da d.length dc, .slice aa A.length ac, .slice pa p.length pc] 34)) [(w.heap.size, 34, [.int .i64 co, .int .i64 ct, .int .i64 cr, .int .i64 ck, .int .i64 cm, .int .i64 cw, .slice fa f.length fc, .slice da d.length dc, .slice aa A.length ac, .slice pa p.length pc])]) := (Own.start w).alloc 34 [.int .i64 co, .int .i64 ct, .int .i64 cr, .int .i64 ck, .int .i64 cm, .int .i64 cw, .slice fa f.length fc, .slice da d.length dc, .slice aa A.length ac, .slice pa p.length pc]; have HS := Lib.hid hs; clear hs; go_enter Try.func8, Try.ntmps8; go_wp2_with fail; generalize w.alloc _ = v at *; (obtain ⟨sb, hsb⟩ : ∃ sb, sb = w.heap.size := ⟨_, rfl⟩); rw [← hsb] at O1 ⊢; have HSB := Lib.hid hsb; clear hsb; refine (alive_any v).mono ?_; rintro r u ⟨rfl, g⟩; have O2 := Lib.hid (O1.out.grown g.out); clear O1 g; have d0 := O2.out.cell 0 0 rfl rfl; have d1 := O2.out.cell 0 1 rfl rfl; have d2 := O2.out.cell 0 2 rfl rfl; have d3 := O2.out.cell 0 3 rfl rfl; have d4 := O2.out.cell 0 4 rfl rfl; have d5 := O2.out.cell 0 5 rfl rfl; have d6 := O2.out.cell 0 6 rfl rfl; have d7 := O2.out.cell 0 7 rfl rfl; have d8 := O2.out.cell 0 8 rfl rfl; have d9 := O2.out.cell 0 9 rfl rfl; go_wp2_with fail; refine (great_lit co ct cr ck cm cw f d p A fa fc da dc aa ac pa pc u (HS.out.grown O2.out.grow)).mono ?_; rintro r u2 ⟨rfl, g⟩; have O3 := Lib.hid (O2.out.grown g.out); clear O2 g; clear d0 d1 d2 d3 d4 d5 d6 d7 d8 d9; have d0 := O3.out.cell 0 0 rfl rfl; have d1 := O3.out.cell 0 1 rfl rfl; have d2 := O3.out.cell 0 2 rfl rfl; have d3 := O3.out.cell 0 3 rfl rfl; have d4 := O3.out.cell 0 4 rfl rfl; have d5 := O3.out.cell 0 5 rfl rfl; have d6 := O3.out.cell 0 6 rfl rfl; have d7 := O3.out.cell 0 7 rfl rfl; have d8 := O3.out.cell 0 8 rfl rfl; have d9 := O3.out.cell 0 9 rfl rfl
  cases hfit : fits ⟨⟨co, ct, cr, ck, cm, cw⟩, f, d, A, p⟩ with
  | false =>
    go_wp2
    go_ret
    exact ⟨rfl, gb_below O3.out.grow⟩
  | true =>
  obtain ⟨q1, q2, q3, q4, _, _⟩ := fits_at hfit
  dsimp only at q1 q2 q3 q4
  clear hfit
  by_cases hm3 : 300 < M.length
  · have hm3I : (300 : Int) < (M.length : Int) := by omega
    go_wp2
    go_ret
    exact ⟨rfl, gb_below O3.out.grow⟩
  have hm3I : decide ((300 : Int) < (M.length : Int)) = false := by simp; omega
  go_wp2_with fail
  refine (of_lit co ct cr ck cm cw f d p A fa fc da dc aa ac pa pc _).mono ?_
  rintro r u3 ⟨rfl, g⟩
  have O4 := Lib.hid (O3.out.grown g.out)
  clear O3 g hm3I
  clear d0 d1 d2 d3 d4 d5 d6 d7 d8 d9
  go_wp2_with fail
  cases hok : Scr.ok ⟨⟨co, ct, cr, ck, cm, cw⟩, f, d, A, p⟩ with
  | false =>
    refine (put_err_any co ct cr ck cm cw f d p A fa fc da dc aa ac pa pc u3 (HS.out.grown O4.out.grow) HD.out (by omega) (by omega) (by omega) (by omega) hok).mono ?_
    rintro r u4 ⟨rfl, g⟩
    have G4 := Lib.hid (gb_trans O4.out.grow g.out)
    clear O4 g
    go_wp2
    go_ret
    exact ⟨rfl, gb_below G4.out⟩
  | true =>
    refine (put_ok_any co ct cr ck cm cw f d p A fa fc da dc aa ac pa pc u3 (HS.out.grown O4.out.grow) HD.out (by omega) (by omega) (by omega) (by omega) hok).mono ?_
    rintro r u4 ⟨b, m, c, rfl, g, hm, R⟩
    have O5 := Lib.hid (O4.out.grown g.out)
    have R5 := Lib.hid (owns_lower R.out O4.out.grow.size)
    clear O4 g R
    obtain ⟨R, hR⟩ := put_cons co ct cr ck cm cw f d p A M
    have LB := Lib.hid (hR ▸ bytes_append (bytes_put hok) HMB.out)
    have hm7 : m + M.length = (co :: ct :: cr / 256 :: cr % 256 :: ck :: cm :: cw :: R).length := by rw [← hR, List.length_append, owns_len R5.out]
    have hR7 : 7 ≤ m := by
      obtain ⟨R', hR'⟩ := put_cons co ct cr ck cm cw f d p A []
      have h1 := owns_len R5.out
      rw [List.append_nil] at hR'
      rw [h1, hR']
      simp
    have hn7 : (m : Int) < 7 → False := by omega
    have hmd : decide ((m : Int) < 7) = false := by simp; omega
    have HRR := Lib.hid hR
    have hs5 := Lib.hid O5.out.grow.size
    have OKC := Lib.hid hok
    have HMS := Lib.hid (NumsAt.src (HM.out.grown O5.out.grow))
    clear hR hn7 hm7 hok HM
    rcases (by omega : a1 % 6 = 0 ∨ a1 % 6 = 1 ∨ a1 % 6 = 2 ∨ a1 % 6 = 3 ∨ a1 % 6 = 4 ∨ a1 % 6 = 5) with hq | hq | hq | hq | hq | hq
    · go_wp2_with (at_builtin; go_loud (refine appendU8 _ rfl (.tmp 38) (.tmp 39) rfl w.heap.size _ m _ rfl R5.out a2 M.length cap2 (numsC .u8 M) rfl (by rw [numsC_len]; omega) HMS.out (one_numsC _ _) (by omega) hs5.out ?_); intro b6 c6 w6 ho hg hv; (obtain ⟨gb, rfl, hgb⟩ := owns_some ho (by omega)); have G6 := Lib.hid (gb_overO O5.out.grow hg (fun i hi => (R5.out.lt i hi).1)); have O6 := Lib.hid (Own.keepT O5.out (KeepT.row R5.out hg) (by intro y hy; simp at hy; subst hy; show (34 : TypeId) ≠ 5; decide) G6.out); have U6 := Lib.hid (show w6.ownsRow w.heap.size 5 1 (.slice (some ⟨gb, 0, none⟩) (m + M.length) c6) (m + M.length) (numsC .u8 (co :: ct :: cr / 256 :: cr % 256 :: ck :: cm :: cw :: R)) by rw [← HRR.out, numsC_append]; exact ho); clear ho hg hv; have x0 := U6.out.cellAt 0 (by omega); have x1 := U6.out.cellAt 1 (by omega); have x2 := U6.out.cellAt 2 (by omega); have x3 := U6.out.cellAt 3 (by omega); have x5 := U6.out.cellAt 5 (by omega); have x6 := U6.out.cellAt 6 (by omega); simp only [numsC, List.map_cons, List.getElem?_cons_zero, List.getElem?_cons_succ] at x0 x1 x2 x3 x5 x6; have y0 := U6.out.frozenAt 0; have y1 := U6.out.frozenAt 1; have y2 := U6.out.frozenAt 2; have y3 := U6.out.frozenAt 3; have y5 := U6.out.frozenAt 5; have y6 := U6.out.frozenAt 6; have lg := (U6.out.lt gb rfl).2; have d0 := O6.out.cell 0 0 rfl rfl; have d1 := O6.out.cell 0 1 rfl rfl; have d2 := O6.out.cell 0 2 rfl rfl; have d3 := O6.out.cell 0 3 rfl rfl; have d4 := O6.out.cell 0 4 rfl rfl; have d5 := O6.out.cell 0 5 rfl rfl; have d6 := O6.out.cell 0 6 rfl rfl; have d7 := O6.out.cell 0 7 rfl rfl; have d8 := O6.out.cell 0 8 rfl rfl; have d9 := O6.out.cell 0 9 rfl rfl)
      have E7 := Lib.hid (show getS ((co :: ct :: cr / 256 :: cr % 256 :: ck :: cm :: cw :: R).set 0 (9)) = .error (0, 2) from get_range (by simp) (by simp [cfOf, at0, Cfg.ok]))
      have U7 := Lib.hid (row_set U6.out (j := 0) (by omega) (9))
      have G7 := Lib.hid (gb_setNew G6.out (p := ⟨gb, 0, none⟩) hgb (.int .u8 9))
      have B7 := Lib.hid (bytes_set LB.out 0 (v := 9) (by omega))
      clear U6 G6 LB O6 x0 x1 x2 x3 x5 x6 y0 y1 y2 y3 y5 y6 R5 O5 HMS hs5 lg d0 d1 d2 d3 d4 d5 d6 d7 d8 d9 hmd hq HMB HD HS
      refine (get_err_own U7.out B7.out (by omega) 0 0 2 rfl E7.out).mono ?_
      rintro r u8 ⟨rfl, g⟩
      have G8 := Lib.hid (gb_trans G7.out g.out)
      clear U7 B7 E7 G7 g
      go_wp2
      go_ret
      exact ⟨rfl, gb_below (gb_alloc G8.out _)⟩
    · go_wp2_with (at_builtin; go_loud (refine appendU8 _ rfl (.tmp 38) (.tmp 39) rfl w.heap.size _ m _ rfl R5.out a2 M.length cap2 (numsC .u8 M) rfl (by rw [numsC_len]; omega) HMS.out (one_numsC _ _) (by omega) hs5.out ?_); intro b6 c6 w6 ho hg hv; (obtain ⟨gb, rfl, hgb⟩ := owns_some ho (by omega)); have G6 := Lib.hid (gb_overO O5.out.grow hg (fun i hi => (R5.out.lt i hi).1)); have O6 := Lib.hid (Own.keepT O5.out (KeepT.row R5.out hg) (by intro y hy; simp at hy; subst hy; show (34 : TypeId) ≠ 5; decide) G6.out); have U6 := Lib.hid (show w6.ownsRow w.heap.size 5 1 (.slice (some ⟨gb, 0, none⟩) (m + M.length) c6) (m + M.length) (numsC .u8 (co :: ct :: cr / 256 :: cr % 256 :: ck :: cm :: cw :: R)) by rw [← HRR.out, numsC_append]; exact ho); clear ho hg hv; have x0 := U6.out.cellAt 0 (by omega); have x1 := U6.out.cellAt 1 (by omega); have x2 := U6.out.cellAt 2 (by omega); have x3 := U6.out.cellAt 3 (by omega); have x5 := U6.out.cellAt 5 (by omega); have x6 := U6.out.cellAt 6 (by omega); simp only [numsC, List.map_cons, List.getElem?_cons_zero, List.getElem?_cons_succ] at x0 x1 x2 x3 x5 x6; have y0 := U6.out.frozenAt 0; have y1 := U6.out.frozenAt 1; have y2 := U6.out.frozenAt 2; have y3 := U6.out.frozenAt 3; have y5 := U6.out.frozenAt 5; have y6 := U6.out.frozenAt 6; have lg := (U6.out.lt gb rfl).2; have d0 := O6.out.cell 0 0 rfl rfl; have d1 := O6.out.cell 0 1 rfl rfl; have d2 := O6.out.cell 0 2 rfl rfl; have d3 := O6.out.cell 0 3 rfl rfl; have d4 := O6.out.cell 0 4 rfl rfl; have d5 := O6.out.cell 0 5 rfl rfl; have d6 := O6.out.cell 0 6 rfl rfl; have d7 := O6.out.cell 0 7 rfl rfl; have d8 := O6.out.cell 0 8 rfl rfl; have d9 := O6.out.cell 0 9 rfl rfl)
      have E7 := Lib.hid (show getS ((co :: ct :: cr / 256 :: cr % 256 :: ck :: cm :: cw :: R).set 1 (0)) = .error (0, 2) from get_range (by simp) (by simp [cfOf, at0, Cfg.ok]))
      have U7 := Lib.hid (row_set U6.out (j := 1) (by omega) (0))
      have G7 := Lib.hid (gb_setNew G6.out (p := ⟨gb, 1, none⟩) hgb (.int .u8 0))
      have B7 := Lib.hid (bytes_set LB.out 1 (v := 0) (by omega))
      clear U6 G6 LB O6 x0 x1 x2 x3 x5 x6 y0 y1 y2 y3 y5 y6 R5 O5 HMS hs5 lg d0 d1 d2 d3 d4 d5 d6 d7 d8 d9 hmd hq HMB HD HS
      refine (get_err_own U7.out B7.out (by omega) 0 0 2 rfl E7.out).mono ?_
      rintro r u8 ⟨rfl, g⟩
      have G8 := Lib.hid (gb_trans G7.out g.out)
      clear U7 B7 E7 G7 g
      go_wp2
      go_ret
      exact ⟨rfl, gb_below (gb_alloc G8.out _)⟩
    · go_wp2_with (at_builtin; go_loud (refine appendU8 _ rfl (.tmp 38) (.tmp 39) rfl w.heap.size _ m _ rfl R5.out a2 M.length cap2 (numsC .u8 M) rfl (by rw [numsC_len]; omega) HMS.out (one_numsC _ _) (by omega) hs5.out ?_); intro b6 c6 w6 ho hg hv; (obtain ⟨gb, rfl, hgb⟩ := owns_some ho (by omega)); have G6 := Lib.hid (gb_overO O5.out.grow hg (fun i hi => (R5.out.lt i hi).1)); have O6 := Lib.hid (Own.keepT O5.out (KeepT.row R5.out hg) (by intro y hy; simp at hy; subst hy; show (34 : TypeId) ≠ 5; decide) G6.out); have U6 := Lib.hid (show w6.ownsRow w.heap.size 5 1 (.slice (some ⟨gb, 0, none⟩) (m + M.length) c6) (m + M.length) (numsC .u8 (co :: ct :: cr / 256 :: cr % 256 :: ck :: cm :: cw :: R)) by rw [← HRR.out, numsC_append]; exact ho); clear ho hg hv; have x0 := U6.out.cellAt 0 (by omega); have x1 := U6.out.cellAt 1 (by omega); have x2 := U6.out.cellAt 2 (by omega); have x3 := U6.out.cellAt 3 (by omega); have x5 := U6.out.cellAt 5 (by omega); have x6 := U6.out.cellAt 6 (by omega); simp only [numsC, List.map_cons, List.getElem?_cons_zero, List.getElem?_cons_succ] at x0 x1 x2 x3 x5 x6; have y0 := U6.out.frozenAt 0; have y1 := U6.out.frozenAt 1; have y2 := U6.out.frozenAt 2; have y3 := U6.out.frozenAt 3; have y5 := U6.out.frozenAt 5; have y6 := U6.out.frozenAt 6; have lg := (U6.out.lt gb rfl).2; have d0 := O6.out.cell 0 0 rfl rfl; have d1 := O6.out.cell 0 1 rfl rfl; have d2 := O6.out.cell 0 2 rfl rfl; have d3 := O6.out.cell 0 3 rfl rfl; have d4 := O6.out.cell 0 4 rfl rfl; have d5 := O6.out.cell 0 5 rfl rfl; have d6 := O6.out.cell 0 6 rfl rfl; have d7 := O6.out.cell 0 7 rfl rfl; have d8 := O6.out.cell 0 8 rfl rfl; have d9 := O6.out.cell 0 9 rfl rfl)
      have E7 := Lib.hid (show getS (((co :: ct :: cr / 256 :: cr % 256 :: ck :: cm :: cw :: R).set 2 (16)).set 3 (1)) = .error (0, 2) from get_range (by simp) (by simp [cfOf, at0, Cfg.ok]))
      have U7 := Lib.hid (row_set (row_set U6.out (j := 2) (by omega) (16)) (j := 3) (by omega) (1))
      have G7 := Lib.hid (gb_setNew (gb_setNew G6.out (p := ⟨gb, 2, none⟩) hgb (.int .u8 16)) (p := ⟨gb, 3, none⟩) hgb (.int .u8 1))
      have B7 := Lib.hid (bytes_set (bytes_set LB.out 2 (v := 16) (by omega)) 3 (v := 1) (by omega))
      clear U6 G6 LB O6 x0 x1 x2 x3 x5 x6 y0 y1 y2 y3 y5 y6 R5 O5 HMS hs5 lg d0 d1 d2 d3 d4 d5 d6 d7 d8 d9 hmd hq HMB HD HS
      refine (get_err_own U7.out B7.out (by omega) 0 0 2 rfl E7.out).mono ?_
      rintro r u8 ⟨rfl, g⟩
      have G8 := Lib.hid (gb_trans G7.out g.out)
      clear U7 B7 E7 G7 g
      go_wp2
      go_ret
      exact ⟨rfl, gb_below (gb_alloc G8.out _)⟩
    · go_wp2_with (at_builtin; go_loud (refine appendU8 _ rfl (.tmp 38) (.tmp 39) rfl w.heap.size _ m _ rfl R5.out a2 M.length cap2 (numsC .u8 M) rfl (by rw [numsC_len]; omega) HMS.out (one_numsC _ _) (by omega) hs5.out ?_); intro b6 c6 w6 ho hg hv; (obtain ⟨gb, rfl, hgb⟩ := owns_some ho (by omega)); have G6 := Lib.hid (gb_overO O5.out.grow hg (fun i hi => (R5.out.lt i hi).1)); have O6 := Lib.hid (Own.keepT O5.out (KeepT.row R5.out hg) (by intro y hy; simp at hy; subst hy; show (34 : TypeId) ≠ 5; decide) G6.out); have U6 := Lib.hid (show w6.ownsRow w.heap.size 5 1 (.slice (some ⟨gb, 0, none⟩) (m + M.length) c6) (m + M.length) (numsC .u8 (co :: ct :: cr / 256 :: cr % 256 :: ck :: cm :: cw :: R)) by rw [← HRR.out, numsC_append]; exact ho); clear ho hg hv; have x0 := U6.out.cellAt 0 (by omega); have x1 := U6.out.cellAt 1 (by omega); have x2 := U6.out.cellAt 2 (by omega); have x3 := U6.out.cellAt 3 (by omega); have x5 := U6.out.cellAt 5 (by omega); have x6 := U6.out.cellAt 6 (by omega); simp only [numsC, List.map_cons, List.getElem?_cons_zero, List.getElem?_cons_succ] at x0 x1 x2 x3 x5 x6; have y0 := U6.out.frozenAt 0; have y1 := U6.out.frozenAt 1; have y2 := U6.out.frozenAt 2; have y3 := U6.out.frozenAt 3; have y5 := U6.out.frozenAt 5; have y6 := U6.out.frozenAt 6; have lg := (U6.out.lt gb rfl).2; have d0 := O6.out.cell 0 0 rfl rfl; have d1 := O6.out.cell 0 1 rfl rfl; have d2 := O6.out.cell 0 2 rfl rfl; have d3 := O6.out.cell 0 3 rfl rfl; have d4 := O6.out.cell 0 4 rfl rfl; have d5 := O6.out.cell 0 5 rfl rfl; have d6 := O6.out.cell 0 6 rfl rfl; have d7 := O6.out.cell 0 7 rfl rfl; have d8 := O6.out.cell 0 8 rfl rfl; have d9 := O6.out.cell 0 9 rfl rfl)
      have E7 := Lib.hid (show getS ((co :: ct :: cr / 256 :: cr % 256 :: ck :: cm :: cw :: R).set 5 (5)) = .error (0, 2) from get_range (by simp) (by simp [cfOf, at0, Cfg.ok]))
      have U7 := Lib.hid (row_set U6.out (j := 5) (by omega) (5))
      have G7 := Lib.hid (gb_setNew G6.out (p := ⟨gb, 5, none⟩) hgb (.int .u8 5))
      have B7 := Lib.hid (bytes_set LB.out 5 (v := 5) (by omega))
      clear U6 G6 LB O6 x0 x1 x2 x3 x5 x6 y0 y1 y2 y3 y5 y6 R5 O5 HMS hs5 lg d0 d1 d2 d3 d4 d5 d6 d7 d8 d9 hmd hq HMB HD HS
      refine (get_err_own U7.out B7.out (by omega) 0 0 2 rfl E7.out).mono ?_
      rintro r u8 ⟨rfl, g⟩
      have G8 := Lib.hid (gb_trans G7.out g.out)
      clear U7 B7 E7 G7 g
      go_wp2
      go_ret
      exact ⟨rfl, gb_below (gb_alloc G8.out _)⟩
    · go_wp2_with (at_builtin; go_loud (refine appendU8 _ rfl (.tmp 38) (.tmp 39) rfl w.heap.size _ m _ rfl R5.out a2 M.length cap2 (numsC .u8 M) rfl (by rw [numsC_len]; omega) HMS.out (one_numsC _ _) (by omega) hs5.out ?_); intro b6 c6 w6 ho hg hv; (obtain ⟨gb, rfl, hgb⟩ := owns_some ho (by omega)); have G6 := Lib.hid (gb_overO O5.out.grow hg (fun i hi => (R5.out.lt i hi).1)); have O6 := Lib.hid (Own.keepT O5.out (KeepT.row R5.out hg) (by intro y hy; simp at hy; subst hy; show (34 : TypeId) ≠ 5; decide) G6.out); have U6 := Lib.hid (show w6.ownsRow w.heap.size 5 1 (.slice (some ⟨gb, 0, none⟩) (m + M.length) c6) (m + M.length) (numsC .u8 (co :: ct :: cr / 256 :: cr % 256 :: ck :: cm :: cw :: R)) by rw [← HRR.out, numsC_append]; exact ho); clear ho hg hv; have x0 := U6.out.cellAt 0 (by omega); have x1 := U6.out.cellAt 1 (by omega); have x2 := U6.out.cellAt 2 (by omega); have x3 := U6.out.cellAt 3 (by omega); have x5 := U6.out.cellAt 5 (by omega); have x6 := U6.out.cellAt 6 (by omega); simp only [numsC, List.map_cons, List.getElem?_cons_zero, List.getElem?_cons_succ] at x0 x1 x2 x3 x5 x6; have y0 := U6.out.frozenAt 0; have y1 := U6.out.frozenAt 1; have y2 := U6.out.frozenAt 2; have y3 := U6.out.frozenAt 3; have y5 := U6.out.frozenAt 5; have y6 := U6.out.frozenAt 6; have lg := (U6.out.lt gb rfl).2; have d0 := O6.out.cell 0 0 rfl rfl; have d1 := O6.out.cell 0 1 rfl rfl; have d2 := O6.out.cell 0 2 rfl rfl; have d3 := O6.out.cell 0 3 rfl rfl; have d4 := O6.out.cell 0 4 rfl rfl; have d5 := O6.out.cell 0 5 rfl rfl; have d6 := O6.out.cell 0 6 rfl rfl; have d7 := O6.out.cell 0 7 rfl rfl; have d8 := O6.out.cell 0 8 rfl rfl; have d9 := O6.out.cell 0 9 rfl rfl)
      have E7 := Lib.hid (show getS ((co :: ct :: cr / 256 :: cr % 256 :: ck :: cm :: cw :: R).set 6 (65)) = .error (0, 2) from get_range (by simp) (by simp [cfOf, at0, Cfg.ok]))
      have U7 := Lib.hid (row_set U6.out (j := 6) (by omega) (65))
      have G7 := Lib.hid (gb_setNew G6.out (p := ⟨gb, 6, none⟩) hgb (.int .u8 65))
      have B7 := Lib.hid (bytes_set LB.out 6 (v := 65) (by omega))
      clear U6 G6 LB O6 x0 x1 x2 x3 x5 x6 y0 y1 y2 y3 y5 y6 R5 O5 HMS hs5 lg d0 d1 d2 d3 d4 d5 d6 d7 d8 d9 hmd hq HMB HD HS
      refine (get_err_own U7.out B7.out (by omega) 0 0 2 rfl E7.out).mono ?_
      rintro r u8 ⟨rfl, g⟩
      have G8 := Lib.hid (gb_trans G7.out g.out)
      clear U7 B7 E7 G7 g
      go_wp2
      go_ret
      exact ⟨rfl, gb_below (gb_alloc G8.out _)⟩
    · obtain ⟨⟨l1, l2⟩, _⟩ := Cfg.ok_iff.1 (scr_cfg OKC.out)
      dsimp only at l1 l2
      have k1 : IntKind.i64.wrap (2 * co) = 2 * co := IntWalk.i64_in _ (by omega)
      have k2 : IntKind.i64.wrap (2 * co - 1) = 2 * co - 1 := IntWalk.i64_in _ (by omega)
      have k3 : IntKind.u8.wrap (2 * co - 1) = 2 * co - 1 := IntWalk.u8_in _ (by omega)
      go_wp2_with (at_builtin; go_loud (refine appendU8 _ rfl (.tmp 38) (.tmp 39) rfl w.heap.size _ m _ rfl R5.out a2 M.length cap2 (numsC .u8 M) rfl (by rw [numsC_len]; omega) HMS.out (one_numsC _ _) (by omega) hs5.out ?_); intro b6 c6 w6 ho hg hv; (obtain ⟨gb, rfl, hgb⟩ := owns_some ho (by omega)); have G6 := Lib.hid (gb_overO O5.out.grow hg (fun i hi => (R5.out.lt i hi).1)); have O6 := Lib.hid (Own.keepT O5.out (KeepT.row R5.out hg) (by intro y hy; simp at hy; subst hy; show (34 : TypeId) ≠ 5; decide) G6.out); have U6 := Lib.hid (show w6.ownsRow w.heap.size 5 1 (.slice (some ⟨gb, 0, none⟩) (m + M.length) c6) (m + M.length) (numsC .u8 (co :: ct :: cr / 256 :: cr % 256 :: ck :: cm :: cw :: R)) by rw [← HRR.out, numsC_append]; exact ho); clear ho hg hv; have x0 := U6.out.cellAt 0 (by omega); have x1 := U6.out.cellAt 1 (by omega); have x2 := U6.out.cellAt 2 (by omega); have x3 := U6.out.cellAt 3 (by omega); have x5 := U6.out.cellAt 5 (by omega); have x6 := U6.out.cellAt 6 (by omega); simp only [numsC, List.map_cons, List.getElem?_cons_zero, List.getElem?_cons_succ] at x0 x1 x2 x3 x5 x6; have y0 := U6.out.frozenAt 0; have y1 := U6.out.frozenAt 1; have y2 := U6.out.frozenAt 2; have y3 := U6.out.frozenAt 3; have y5 := U6.out.frozenAt 5; have y6 := U6.out.frozenAt 6; have lg := (U6.out.lt gb rfl).2; have d0 := O6.out.cell 0 0 rfl rfl; have d1 := O6.out.cell 0 1 rfl rfl; have d2 := O6.out.cell 0 2 rfl rfl; have d3 := O6.out.cell 0 3 rfl rfl; have d4 := O6.out.cell 0 4 rfl rfl; have d5 := O6.out.cell 0 5 rfl rfl; have d6 := O6.out.cell 0 6 rfl rfl; have d7 := O6.out.cell 0 7 rfl rfl; have d8 := O6.out.cell 0 8 rfl rfl; have d9 := O6.out.cell 0 9 rfl rfl)
      have nsg : sb ≠ gb := fun e => by
        obtain ⟨cs, hcs⟩ := ownsRow_type U6.out (k := gb) rfl
        have h1 := O6.out.get 0 rfl
        unfold Blk at h1
        rw [e, hcs] at h1
        injection h1 with h1
        injection h1 with _ h1
        cases h1
      have i2 : (2 : Int) < ((m + M.length : Nat) : Int) := by omega
      have i3 : (3 : Int) < ((m + M.length : Nat) : Int) := by omega
      have i2' : (2 : Int) < (m : Int) + (M.length : Int) := by omega
      have i3' : (3 : Int) < (m : Int) + (M.length : Int) := by omega
      have ngs : gb ≠ sb := Ne.symm nsg
      have lsb := O6.out.lt 0 rfl
      clear d1 d2 d3 d4 d5 d6 d7 d8 d9 x0 x1 x5 x6 y0 y1 y5 y6
      go_region_held3 (fun w' => w'.cell? ⟨sb, 0, none⟩ = some (.int .i64 co)) (go_keep) (fail)
      have E7 := Lib.hid (show getS (((co :: ct :: cr / 256 :: cr % 256 :: ck :: cm :: cw :: R).set 2 0).set 3 (2 * co - 1)) = .error (2, 4) from get_full (by simp) (by have h := Cfg.ok_iff.1 (scr_cfg OKC.out); dsimp only at h; refine Cfg.ok_iff.2 ?_; simp only [cfOf, at0, List.set_cons_zero, List.set_cons_succ, List.getD_cons_zero, List.getD_cons_succ]; omega) (by simp only [cfOf, at0, List.set_cons_zero, List.set_cons_succ, List.getD_cons_zero, List.getD_cons_succ]; omega))
      have U7 := Lib.hid (row_set (row_set U6.out (j := 2) (by omega) 0) (j := 3) (by omega) (2 * co - 1)).drew
      have G7 := Lib.hid (gb_drew (gb_setNew (gb_setNew G6.out (p := ⟨gb, 2, none⟩) hgb (.int .u8 0)) (p := ⟨gb, 3, none⟩) hgb (.int .u8 (2 * co - 1))))
      have B7 := Lib.hid (bytes_set (bytes_set LB.out 2 (v := 0) (by omega)) 3 (v := 2 * co - 1) (by omega))
      clear U6 G6 LB O6 x2 x3 y2 y3 R5 O5 HMS hs5 lg d0 hmd hq HMB HD HS k1 k2 k3 i2 i3 i2' i3' nsg ngs lsb
      go_wp2_with fail
      refine (get_err_own U7.out B7.out (by omega) 2 2 4 rfl E7.out).mono ?_
      rintro r u8 ⟨rfl, g⟩
      have G8 := Lib.hid (gb_trans G7.out g.out)
      clear U7 B7 E7 G7 g
      go_wp2
      go_ret
      exact ⟨rfl, gb_below (gb_alloc G8.out _)⟩

theorem walk (s : Scr) (fv dv av pv : Value) (a1 : Int) (a2 : Option Addr) (len2 cap2 : Nat) (z2 : Nat → Int) (w : World) (c0 : s.c.Wf) (w0 : ScrAt w s fv dv av pv) (y0 : Bytes s.draws) (w1 : (Lit.int .u8 a1).wf = true) (w2 : IsRow .u8 w a2 len2 cap2 z2) :
    Calls Try.prog 8 #[.agg ⟨cfC s.c ++ [fv, dv, av, pv]⟩, .int .u8 a1, .slice a2 len2 cap2] w fun e w' => e = .returned (.bool true) ∧ Below w.heap.size w w' := by
  obtain ⟨⟨co, ct, cr, ck, cm, cw⟩, f, d, A, p⟩ := s
  have h0 := w0
  obtain ⟨⟨fa, fc, rfl, _⟩, ⟨da, dc, rfl, _⟩, ⟨aa, ac, rfl, _⟩, ⟨pa, pc, rfl, _⟩⟩ := h0
  obtain ⟨a', c', e, hN⟩ := NumsAt.of_row w2
  have hlen := numsL_len len2 z2
  have hB := numsL_bytes w2
  generalize numsL len2 z2 = M at *
  subst hlen
  cases e
  have hw : 0 ≤ a1 ∧ a1 ≤ 255 := bounds_u8 w1
  exact walkIn co ct cr ck cm cw f d p A fa fc da dc aa ac pa pc a1 a2 cap2 M w w0 y0 hN hB hw

theorem own : ownKnob Try.prog.godebug = none := by kernel_rfl
theorem laidOut : laidOutB Try.prog = true := by kernel_rfl

/-! ### THE ROW's STEP, as the guide has it -/
set_option maxRecDepth 100000 in
theorem lifted (os : Os) (started : os.Started) (H : Type) (enc : TypeId × Value → H) :
    ReturnsInHanded {} Try.checked os 8 .any (Rows.scriptSpoiltSpec.pre6 enc Try.prog Try.f8 Rows.scriptSpoiltRow.domain false) (Rows.scriptSpoiltSpec.post enc Try.prog Try.f8 false true false false) := by
  refine returnsInHanded_of_change (C := Try.checked) own started (by kernel_rfl) Try.func8
    (ChangeSpec.witness6 (enc := enc) (C := Try.checked) false ⟨#[], #[.agg #[.int .i64 0, .int .i64 0, .int .i64 0, .int .i64 0, .int .i64 0, .int .i64 0, .slice none 0 0, .slice none 0 0, .slice none 0 0, .slice none 0 0], .int .u8 0, .slice none 0 0], []⟩ 8 (by kernel_rfl) (by kernel_rfl) (by kernel_rfl) (by kernel_rfl)) ?_
  intro W base args ds gs before hval0 hW hcnd _
  have hval : ∀ (j : Nat) t v, Try.f8.params[j]? = some t → args[j]? = some v → Value.okWide Try.prog W .any base t v := hval0
  have hW' := hW
  obtain ⟨p, q, hA0, hV, rfl, hfz, hnd⟩ := hW
  have hA : DataW.TrodAll enc Try.prog W 0 (fun _ => true) true Try.f8.params.toList args.toList ds p := hA0
  rw [Try.params8] at hA hval
  obtain ⟨v0, vs0, d0, ds0, p0, q0, hargs, rfl, rfl, h0, r0⟩ := trodAll_cons hA
  obtain ⟨v1, vs1, d1, ds1, p1, q1, rfl, rfl, rfl, h1, r1⟩ := trodAll_cons r0
  obtain ⟨v2, vs2, d2, ds2, p2, q2, rfl, rfl, rfl, h2, r2⟩ := trodAll_cons r1
  obtain ⟨rfl, rfl, rfl⟩ := trodAll_nil r2
  obtain rfl : args = #[v0, v1, v2] := by cases args; simp_all
  obtain ⟨rfl, rfl⟩ := trodVars_none hV
  obtain ⟨cs0, rfl, sz0⟩ := okWide_struct Try.underlying34 (hval 0 34 v0 rfl rfl)
  have k0 := h0
  have lt0 : ∀ x ∈ p0, x.block < W.heap.size := by obtain ⟨m, hm⟩ := k0; exact DataW.trod_lt m _ _ _ hm
  obtain ⟨s0, fv0, dv0, av0, pv0, rfl, c0, w0, y0⟩ : ∃ (s : Scr) (fv dv av pv : Value), cs0 = ⟨cfC s.c ++ [fv, dv, av, pv]⟩ ∧ s.c.Wf ∧ ScrAt W s fv dv av pv ∧ Bytes s.draws := by
    obtain ⟨fuel, hf⟩ := h0
    exact script_arg (sz0.trans (by kernel_rfl)) hf
  obtain ⟨a1, rfl, rfl, rfl, w1⟩ := open_int Try.underlying5 (hval 1 5 v1 rfl rfl) h1
  obtain ⟨a2, len2, cap2, rfl⟩ := okWide_slice Try.underlying22 (hval 2 22 v2 rfl rfl)
  have k2 := h2
  have lt2 : ∀ x ∈ p2, x.block < W.heap.size := by obtain ⟨m, hm⟩ := k2; exact DataW.trod_lt m _ _ _ hm
  obtain ⟨z2, w2⟩ : ∃ z, IsRow .u8 W a2 len2 cap2 z := by
    obtain ⟨fuel, hf⟩ := h2
    exact isRow_of Try.underlying22 Try.underlying5 (by kernel_rfl) hf
  clear hA0 hval0
  refine (walk s0 fv0 dv0 av0 pv0 a1 a2 len2 cap2 z2 W c0 w0 y0 w1 w2).mono fun e W' ⟨he, bel⟩ => ?_
  subst he
  exact ⟨_, rfl, _, _, _, [], _, [], hW', trodAll_mk1 (shut_bool Try.underlying4 _), (trodAll_cons_mk (Below.trod laidOut (by kernel_rfl) (of_decide_eq_true (by kernel_rfl)) k0 bel lt0) (trodAll_cons_mk (shut_int Try.underlying5 w1) (trodAll_cons_mk (Below.trod laidOut (by kernel_rfl) (of_decide_eq_true (by kernel_rfl)) k2 bel lt2) trodAll_mk0))), rfl, bel.frame _, fun h => by cases h⟩

theorem over : Rows.scriptSpoiltRow.holds Try.pinned (OpenSpec.ofChange Rows.scriptSpoiltSpec) :=
  OpenClaim.holds_of_wide 8 Try.f8 rfl rfl rfl rfl rfl rfl rfl ⟨rfl, rfl, rfl, rfl, rfl⟩ rfl rfl rfl rfl rfl (by kernel_rfl) Try.func8 (by kernel_rfl)
    (of_decide_eq_true (by kernel_rfl)) (by unfold Func.isWrapper; first | (rw [if_pos (by decide +kernel)]; kernel_rfl) | (rw [if_neg (by decide +kernel)]; exact ⟨rfl, rfl⟩))
    (fun os started H enc _ => lifted os started H enc)

theorem proved : Rows.ScriptSpoiltSaid := over
#print axioms proved
end Go.Proofs.Ytinmhefkmjlelaa.scriptSpoilt
