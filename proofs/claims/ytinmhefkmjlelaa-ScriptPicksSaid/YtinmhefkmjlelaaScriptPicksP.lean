/-
  ScriptPicks: picks play no part for all else that bytes tell, and as many come as there are bytes behind the draws; for any script and any bytes behind.
  Conditions: none (of more than the law goes through, it says nothing by itself).
-/
import Derived.Test.YtinmhefkmjlelaaPz
import Derived.Test.YtinmhefkmjlelaaRows
import Derived.Deep.QuietTactic
import Derived.BigQuiet
namespace Go.Proofs.Ytinmhefkmjlelaa.scriptPicks
open Go.ChangeShapes Go.WideShapes Go.ChangeAt Go.RowKit Go.Proofs.Ytinmhefkmjlelaa.base Go.Proofs.Ytinmhefkmjlelaa.lg Go.Proofs.Ytinmhefkmjlelaa.md Go.Proofs.Ytinmhefkmjlelaa.sc
set_option linter.unusedVariables false
set_option maxRecDepth 100000
set_option linter.unusedSimpArgs false

set_option maxHeartbeats 4000000 in
theorem walkIn (co ct cr ck cm cw : Int) (f d p : List Int) (A : List (List (List Op3))) (fa : Option Addr) (fc : Nat) (da : Option Addr) (dc : Nat) (aa : Option Addr) (ac : Nat) (pa : Option Addr) (pc : Nat) (a1 : Option Addr) (cap1 : Nat) (M1 : List Int) (a2 : Option Addr) (cap2 : Nat) (M2 : List Int) (w : World) (hs : ScrAt w ⟨⟨co, ct, cr, ck, cm, cw⟩, f, d, A, p⟩ (.slice fa f.length fc) (.slice da d.length dc) (.slice aa A.length ac) (.slice pa p.length pc)) (hd : Bytes d) (hM1 : IsNums .u8 w a1 M1.length (at0 M1)) (hB1 : Bytes M1) (hM2 : IsNums .u8 w a2 M2.length (at0 M2)) (hB2 : Bytes M2) : Calls Try.prog 7 #[.agg #[.int .i64 co, .int .i64 ct, .int .i64 cr, .int .i64 ck, .int .i64 cm, .int .i64 cw, .slice fa f.length fc, .slice da d.length dc, .slice aa A.length ac, .slice pa p.length pc], .slice a1 M1.length cap1, .slice a2 M2.length cap2] w fun e w' => e = .returned (.bool true) ∧ Below w.heap.size w w' := by
  have HM1 := Lib.hid hM1
  have HB1 := Lib.hid hB1
  have HM2 := Lib.hid hM2
  have HB2 := Lib.hid hB2
  have HD := Lib.hid hd
  clear hM1 hB1 hM2 hB2 hd
  have O1 : Hid (Own w (w.alloc (.cells #[.int .i64 co, .int .i64 ct, .int .i64 cr, .int .i64 ck, .int .i64 cm, .int .i64 cw, .slice fa f.length fc, .slice da d.length dc, .slice aa A.length ac, .slice pa p.length pc] 34)) [(w.heap.size, 34, [.int .i64 co, .int .i64 ct, .int .i64 cr, .int .i64 ck, .int .i64 cm, .int .i64 cw, .slice fa f.length fc, .slice da d.length dc, .slice aa A.length ac, .slice pa p.length pc])]) := (Own.start w).alloc 34 [.int .i64 co, .int .i64 ct, .int .i64 cr, .int .i64 ck, .int .i64 cm, .int .i64 cw, .slice fa f.length fc, .slice da d.length dc, .slice aa A.length ac, .slice pa p.length pc]; have HS := Lib.hid hs; clear hs; go_enter Try.func7, Try.ntmps7; go_wp2_with fail; generalize w.alloc _ = v at *; (obtain ⟨sb, hsb⟩ : ∃ sb, sb = w.heap.size := ⟨_, rfl⟩); rw [← hsb] at O1 ⊢; have HSB := Lib.hid hsb; clear hsb; refine (alive_any v).mono ?_; rintro r u ⟨rfl, g⟩; have O2 := Lib.hid (O1.out.grown g.out); clear O1 g; have d0 := O2.out.cell 0 0 rfl rfl; have d1 := O2.out.cell 0 1 rfl rfl; have d2 := O2.out.cell 0 2 rfl rfl; have d3 := O2.out.cell 0 3 rfl rfl; have d4 := O2.out.cell 0 4 rfl rfl; have d5 := O2.out.cell 0 5 rfl rfl; have d6 := O2.out.cell 0 6 rfl rfl; have d7 := O2.out.cell 0 7 rfl rfl; have d8 := O2.out.cell 0 8 rfl rfl; have d9 := O2.out.cell 0 9 rfl rfl; go_wp2_with fail; refine (great_lit co ct cr ck cm cw f d p A fa fc da dc aa ac pa pc u (HS.out.grown O2.out.grow)).mono ?_; rintro r u2 ⟨rfl, g⟩; have O3 := Lib.hid (O2.out.grown g.out); clear O2 g; clear d0 d1 d2 d3 d4 d5 d6 d7 d8 d9; have d0 := O3.out.cell 0 0 rfl rfl; have d1 := O3.out.cell 0 1 rfl rfl; have d2 := O3.out.cell 0 2 rfl rfl; have d3 := O3.out.cell 0 3 rfl rfl; have d4 := O3.out.cell 0 4 rfl rfl; have d5 := O3.out.cell 0 5 rfl rfl; have d6 := O3.out.cell 0 6 rfl rfl; have d7 := O3.out.cell 0 7 rfl rfl; have d8 := O3.out.cell 0 8 rfl rfl; have d9 := O3.out.cell 0 9 rfl rfl
  cases hfit : fits ⟨⟨co, ct, cr, ck, cm, cw⟩, f, d, A, p⟩ with
  | false =>
    go_wp2
    go_ret
    exact ⟨rfl, gb_below O3.out.grow⟩
  | true =>
  obtain ⟨q1, q2, q3, q4, q5, q6⟩ := fits_at hfit
  dsimp only at q1 q2 q3 q4 q5 q6
  have Q5 := Lib.hid q5
  have Q6 := Lib.hid q6
  clear hfit q5 q6
  by_cases hm3 : 300 < M1.length
  · have hm3I : (300 : Int) < (M1.length : Int) := by omega
    go_wp2
    go_ret
    exact ⟨rfl, gb_below O3.out.grow⟩
  have hm3d : decide ((300 : Int) < (M1.length : Int)) = false := by simp; omega
  by_cases hm4 : 300 < M2.length
  · have hm4I : (300 : Int) < (M2.length : Int) := by omega
    go_wp2
    go_ret
    exact ⟨rfl, gb_below O3.out.grow⟩
  have hm4d : decide ((300 : Int) < (M2.length : Int)) = false := by simp; omega
  have f9 := O3.out.free 0 9 rfl
  have lsb := O3.out.lt 0 rfl
  go_wp2_with fail
  refine (of_lit co ct cr ck cm cw f d [] A fa fc da dc aa ac none 0 _).mono ?_
  rintro r u3 ⟨rfl, g⟩
  have O4 := Lib.hid ((O3.out.set 0 9 (.slice none 0 0) rfl).grown g.out)
  dsimp only [List.set] at O4
  clear O3 g hm3d hm4d f9 lsb
  clear d0 d1 d2 d3 d4 d5 d6 d7 d8 d9
  go_wp2_with fail
  cases hok : Scr.ok ⟨⟨co, ct, cr, ck, cm, cw⟩, f, d, A, []⟩ with
  | false =>
    refine (put_err_any co ct cr ck cm cw f d [] A fa fc da dc aa ac none 0 u3 ((HS.out.nopicks 0).grown O4.out.grow) HD.out (by omega) (by omega) (by simp) (by omega) hok).mono ?_
    rintro r u4 ⟨rfl, g⟩
    have G4 := Lib.hid (gb_trans O4.out.grow g.out)
    clear O4 g
    go_wp2
    go_ret
    exact ⟨rfl, gb_below G4.out⟩
  | true =>
    refine (put_ok_any co ct cr ck cm cw f d [] A fa fc da dc aa ac none 0 u3 ((HS.out.nopicks 0).grown O4.out.grow) HD.out (by omega) (by omega) (by simp) (by omega) hok).mono ?_
    rintro r u4 ⟨b, m, c, rfl, g, hm, R⟩
    have O5 := Lib.hid (O4.out.grown g.out)
    have R5 := Lib.hid (owns_lower R.out O4.out.grow.size)
    have OKC := Lib.hid hok
    have hm2 : m ≤ 2000 := by simpa using hm
    clear O4 g R hok hm
    go_wp2_with (first | (at_builtin; go_loud (refine appendU8 _ rfl (.tmp 39) (.tmp 40) rfl (u4).heap.size _ 0 [] rfl (ownsRow_empty (u4) _ 1) b m c (numsC .u8 (putS ⟨⟨co, ct, cr, ck, cm, cw⟩, f, d, A, []⟩)) rfl (by rw [numsC_len, owns_len R5.out]; omega) (own_src (R5.out.alloc _)) (one_numsC _ _) (by omega) (by simp) ?_); intro b6 c6 w6 ho hg hv; simp only [Nat.zero_add, List.nil_append] at ho; have H6 := Lib.hid (show World.grownBy (u4) w6 none from gb_overO (gb_alloc (gb_refl _ none) _) hg (by intro i e; cases e; exact Nat.le_refl _)); have Y6 := Lib.hid ho; clear ho hg hv; have S6 := Lib.hid (NumsAt.src (HM1.out.grown (gb_trans O5.out.grow H6.out)))) | (at_builtin; go_loud (refine appendU8 _ rfl (.tmp 41) (.tmp 42) rfl (u4).heap.size _ m (numsC .u8 (putS ⟨⟨co, ct, cr, ck, cm, cw⟩, f, d, A, []⟩)) rfl Y6.out a1 M1.length cap1 (numsC .u8 M1) rfl (by rw [numsC_len]; omega) S6.out (one_numsC _ _) (by omega) H6.out.size ?_); intro b7 c7 w7 ho hg hv; rw [← numsC_append] at ho; have Y7 := Lib.hid ho; have H7 := Lib.hid (show World.grownBy (u4) w7 none from gb_overO H6.out hg (fun i hi => (Y6.out.lt i hi).1)); clear ho hg hv))
    refine (get_ok_own Y7.out (bytes_append (bytes_put OKC.out) HB1.out) (by omega) co ct cr ck cm cw f d M1 A (get_more OKC.out HB1.out)).mono ?_
    rintro r u8 ⟨ga, gc, ea, ec, ba, bc, qa, qc, rfl, g, OS⟩
    have H8 := Lib.hid (gb_trans H7.out g.out)
    have O8 : Hid (Own w (u8.alloc (.cells #[.int .i64 co, .int .i64 ct, .int .i64 cr, .int .i64 ck, .int .i64 cm, .int .i64 cw, .slice ga f.length gc, .slice ea d.length ec, .slice ba A.length bc, .slice qa M1.length qc] 30)) [(u8.heap.size, 30, [.int .i64 co, .int .i64 ct, .int .i64 cr, .int .i64 ck, .int .i64 cm, .int .i64 cw, .slice ga f.length gc, .slice ea d.length ec, .slice ba A.length bc, .slice qa M1.length qc]), (sb, 34, [.int .i64 co, .int .i64 ct, .int .i64 cr, .int .i64 ck, .int .i64 cm, .int .i64 cw, .slice fa f.length fc, .slice da d.length dc, .slice aa A.length ac, .slice none 0 0])]) := (O5.out.grown H8.out).alloc 30 [.int .i64 co, .int .i64 ct, .int .i64 cr, .int .i64 ck, .int .i64 cm, .int .i64 cw, .slice ga f.length gc, .slice ea d.length ec, .slice ba A.length bc, .slice qa M1.length qc]
    have R8 := Lib.hid ((KeepT.grown (P := fun _ => True) (gb_alloc H8.out (.cells #[.int .i64 co, .int .i64 ct, .int .i64 cr, .int .i64 ck, .int .i64 cm, .int .i64 cw, .slice ga f.length gc, .slice ea d.length ec, .slice ba A.length bc, .slice qa M1.length qc] 30))).own R5.out trivial)
    have OS8 := Lib.hid (OS.out.grown (World.grownBy_alloc u8 (.cells #[.int .i64 co, .int .i64 ct, .int .i64 cr, .int .i64 ck, .int .i64 cm, .int .i64 cw, .slice ga f.length gc, .slice ea d.length ec, .slice ba A.length bc, .slice qa M1.length qc] 30) none))
    clear H6 Y6 S6 Y7 H7 g H8 R5 O5 OS
    go_upto_region 10 with fail
    generalize u8.alloc _ = v8 at *
    generalize u8.heap.size = tb at *
    go_wp2_with (first | (at_builtin; go_loud (refine appendU8 _ rfl (.tmp 49) (.tmp 50) rfl (v8).heap.size _ 0 [] rfl (ownsRow_empty (v8) _ 1) b m c (numsC .u8 (putS ⟨⟨co, ct, cr, ck, cm, cw⟩, f, d, A, []⟩)) rfl (by rw [numsC_len, owns_len R8.out]; omega) (own_src (R8.out.alloc _)) (one_numsC _ _) (by omega) (by simp) ?_); intro b6 c6 w6 ho hg hv; simp only [Nat.zero_add, List.nil_append] at ho; have H6 := Lib.hid (show World.grownBy (v8) w6 none from gb_overO (gb_alloc (gb_refl _ none) _) hg (by intro i e; cases e; exact Nat.le_refl _)); have Y6 := Lib.hid ho; clear ho hg hv; have S6 := Lib.hid (NumsAt.src (HM2.out.grown (gb_trans O8.out.grow H6.out)))) | (at_builtin; go_loud (refine appendU8 _ rfl (.tmp 51) (.tmp 52) rfl (v8).heap.size _ m (numsC .u8 (putS ⟨⟨co, ct, cr, ck, cm, cw⟩, f, d, A, []⟩)) rfl Y6.out a2 M2.length cap2 (numsC .u8 M2) rfl (by rw [numsC_len]; omega) S6.out (one_numsC _ _) (by omega) H6.out.size ?_); intro b7 c7 w7 ho hg hv; rw [← numsC_append] at ho; have Y7 := Lib.hid ho; have H7 := Lib.hid (show World.grownBy (v8) w7 none from gb_overO H6.out hg (fun i hi => (Y6.out.lt i hi).1)); clear ho hg hv))
    refine (get_ok_own Y7.out (bytes_append (bytes_put OKC.out) HB2.out) (by omega) co ct cr ck cm cw f d M2 A (get_more OKC.out HB2.out)).mono ?_
    rintro r u10 ⟨ha, hc, ia, ic, ja, jc, ka, kc, rfl, g, OT⟩
    have H8 := Lib.hid (gb_trans H7.out g.out)
    have O10 : Hid (Own w (u10.alloc (.cells #[.int .i64 co, .int .i64 ct, .int .i64 cr, .int .i64 ck, .int .i64 cm, .int .i64 cw, .slice ha f.length hc, .slice ia d.length ic, .slice ja A.length jc, .slice ka M2.length kc] 30)) [(u10.heap.size, 30, [.int .i64 co, .int .i64 ct, .int .i64 cr, .int .i64 ck, .int .i64 cm, .int .i64 cw, .slice ha f.length hc, .slice ia d.length ic, .slice ja A.length jc, .slice ka M2.length kc]), (tb, 30, [.int .i64 co, .int .i64 ct, .int .i64 cr, .int .i64 ck, .int .i64 cm, .int .i64 cw, .slice ga f.length gc, .slice ea d.length ec, .slice ba A.length bc, .slice qa M1.length qc]), (sb, 34, [.int .i64 co, .int .i64 ct, .int .i64 cr, .int .i64 ck, .int .i64 cm, .int .i64 cw, .slice fa f.length fc, .slice da d.length dc, .slice aa A.length ac, .slice none 0 0])]) := (O8.out.grown H8.out).alloc 30 [.int .i64 co, .int .i64 ct, .int .i64 cr, .int .i64 ck, .int .i64 cm, .int .i64 cw, .slice ha f.length hc, .slice ia d.length ic, .slice ja A.length jc, .slice ka M2.length kc]
    have OS10 := Lib.hid (OS8.out.grown (gb_alloc H8.out (.cells #[.int .i64 co, .int .i64 ct, .int .i64 cr, .int .i64 ck, .int .i64 cm, .int .i64 cw, .slice ha f.length hc, .slice ia d.length ic, .slice ja A.length jc, .slice ka M2.length kc] 30)))
    have OT10 := Lib.hid (OT.out.grown (World.grownBy_alloc u10 (.cells #[.int .i64 co, .int .i64 ct, .int .i64 cr, .int .i64 ck, .int .i64 cm, .int .i64 cw, .slice ha f.length hc, .slice ia d.length ic, .slice ja A.length jc, .slice ka M2.length kc] 30) none))
    clear H6 Y6 S6 Y7 H7 g H8 R8 O8 OS8 OT
    go_upto_region 11 with fail
    generalize u10.alloc _ = v10 at *
    generalize u10.heap.size = tc at *
    have e9 := O10.out.cell 0 9 rfl rfl
    have x9 := O10.out.cell 1 9 rfl rfl
    have f9 := O10.out.free 0 9 rfl
    have g9 := O10.out.free 1 9 rfl
    have l0 := O10.out.lt 0 rfl
    have l1 := O10.out.lt 1 rfl
    have n1 := O10.out.ne' 0 1 rfl rfl (by decide)
    have n2 := O10.out.ne' 0 2 rfl rfl (by decide)
    have n3 := O10.out.ne' 1 2 rfl rfl (by decide)
    obtain ⟨n11, n12⟩ := n1
    obtain ⟨n21, n22⟩ := n2
    obtain ⟨n31, n32⟩ := n3
    have d0 := O10.out.cell 2 0 rfl rfl; have d1 := O10.out.cell 2 1 rfl rfl; have d2 := O10.out.cell 2 2 rfl rfl; have d3 := O10.out.cell 2 3 rfl rfl; have d4 := O10.out.cell 2 4 rfl rfl; have d5 := O10.out.cell 2 5 rfl rfl; have d6 := O10.out.cell 2 6 rfl rfl; have d7 := O10.out.cell 2 7 rfl rfl; have d8 := O10.out.cell 2 8 rfl rfl; have d9 := O10.out.cell 2 9 rfl rfl
    have x0 := O10.out.cell 1 0 rfl rfl
    have x1 := O10.out.cell 1 1 rfl rfl
    have x2 := O10.out.cell 1 2 rfl rfl
    have x3 := O10.out.cell 1 3 rfl rfl
    have x4 := O10.out.cell 1 4 rfl rfl
    have x5 := O10.out.cell 1 5 rfl rfl
    have x6 := O10.out.cell 1 6 rfl rfl
    have x7 := O10.out.cell 1 7 rfl rfl
    have x8 := O10.out.cell 1 8 rfl rfl
    go_wp2_with fail
    have O12 := Lib.hid ((O10.out.set 1 9 (.slice none 0 0) rfl).set 0 9 (.slice none 0 0) rfl)
    have OS12 := Lib.hid ((OS10.out.setBox (O10.out.get 1 rfl) 9 (.slice none 0 0)).setBox ((O10.out.set 1 9 (.slice none 0 0) rfl).get 0 rfl) 9 (.slice none 0 0))
    have OT12 := Lib.hid ((OT10.out.setBox (O10.out.get 1 rfl) 9 (.slice none 0 0)).setBox ((O10.out.set 1 9 (.slice none 0 0) rfl).get 0 rfl) 9 (.slice none 0 0))
    dsimp only [List.set] at O12
    clear O10 OS10 OT10 x0 x1 x2 x3 x4 x5 x6 x7 x8 x9 e9 f9 g9 l0 l1 n11 n12 n21 n22 n31 n32
    clear d0 d1 d2 d3 d4 d5 d6 d7 d8 d9
    generalize (v10.setCell _ _).setCell _ _ = v12 at *
    have HV := Lib.hid (HS.out.nopicks 0)
    refine (same_lit co ct cr ck cm cw f d [] A ga gc ea ec ba bc none 0 v12 (OS12.out.at.nopicks 0) (by omega) (by omega) (by simp) fa fc da dc aa ac none 0 (HV.out.grown O12.out.grow) (fun t ht => by have := Q5.out t ht; omega) (fun t ht x hx => by have := Q6.out t ht x hx; omega)).mono ?_
    rintro r u13 ⟨rfl, g⟩
    have O13 := Lib.hid (O12.out.grown g.out)
    have OT13 := Lib.hid (OT12.out.grown g.out)
    clear O12 OS12 OT12 g
    have d0 := O13.out.cell 2 0 rfl rfl; have d1 := O13.out.cell 2 1 rfl rfl; have d2 := O13.out.cell 2 2 rfl rfl; have d3 := O13.out.cell 2 3 rfl rfl; have d4 := O13.out.cell 2 4 rfl rfl; have d5 := O13.out.cell 2 5 rfl rfl; have d6 := O13.out.cell 2 6 rfl rfl; have d7 := O13.out.cell 2 7 rfl rfl; have d8 := O13.out.cell 2 8 rfl rfl; have d9 := O13.out.cell 2 9 rfl rfl
    have x0 := O13.out.cell 0 0 rfl rfl
    have x1 := O13.out.cell 0 1 rfl rfl
    have x2 := O13.out.cell 0 2 rfl rfl
    have x3 := O13.out.cell 0 3 rfl rfl
    have x4 := O13.out.cell 0 4 rfl rfl
    have x5 := O13.out.cell 0 5 rfl rfl
    have x6 := O13.out.cell 0 6 rfl rfl
    have x7 := O13.out.cell 0 7 rfl rfl
    have x8 := O13.out.cell 0 8 rfl rfl
    have x9 := O13.out.cell 0 9 rfl rfl
    go_wp2_with fail
    refine (same_lit co ct cr ck cm cw f d [] A ha hc ia ic ja jc none 0 u13 (OT13.out.at.nopicks 0) (by omega) (by omega) (by simp) fa fc da dc aa ac none 0 (HV.out.grown O13.out.grow) (fun t ht => by have := Q5.out t ht; omega) (fun t ht x hx => by have := Q6.out t ht x hx; omega)).mono ?_
    rintro r u14 ⟨rfl, g⟩
    have G14 := Lib.hid (gb_trans O13.out.grow g.out)
    clear O13 OT13 g
    go_wp2
    go_ret
    exact ⟨rfl, gb_below G14.out⟩

theorem walk (s : Scr) (fv dv av pv : Value) (a1 : Option Addr) (len1 cap1 : Nat) (z1 : Nat → Int) (a2 : Option Addr) (len2 cap2 : Nat) (z2 : Nat → Int) (w : World) (c0 : s.c.Wf) (w0 : ScrAt w s fv dv av pv) (y0 : Bytes s.draws) (w1 : IsRow .u8 w a1 len1 cap1 z1) (w2 : IsRow .u8 w a2 len2 cap2 z2) :
    Calls Try.prog 7 #[.agg ⟨cfC s.c ++ [fv, dv, av, pv]⟩, .slice a1 len1 cap1, .slice a2 len2 cap2] w fun e w' => e = .returned (.bool true) ∧ Below w.heap.size w w' := by
  obtain ⟨⟨co, ct, cr, ck, cm, cw⟩, f, d, A, p⟩ := s
  have h0 := w0
  obtain ⟨⟨fa, fc, rfl, _⟩, ⟨da, dc, rfl, _⟩, ⟨aa, ac, rfl, _⟩, ⟨pa, pc, rfl, _⟩⟩ := h0
  obtain ⟨a', c', e, hN⟩ := NumsAt.of_row w2
  have hlen := numsL_len len2 z2
  have hB := numsL_bytes w2
  obtain ⟨a'', c'', e1, hN1⟩ := NumsAt.of_row w1
  have hlen1 := numsL_len len1 z1
  have hB1 := numsL_bytes w1
  generalize numsL len2 z2 = M at *
  generalize numsL len1 z1 = M1 at *
  subst hlen
  subst hlen1
  cases e
  cases e1
  exact walkIn co ct cr ck cm cw f d p A fa fc da dc aa ac pa pc a1 cap1 M1 a2 cap2 M w w0 y0 hN1 hB1 hN hB

theorem own : ownKnob Try.prog.godebug = none := by kernel_rfl
theorem laidOut : laidOutB Try.prog = true := by kernel_rfl

/-! ### THE ROW's STEP, as the guide has it -/
set_option maxRecDepth 100000 in
theorem lifted (os : Os) (started : os.Started) (H : Type) (enc : TypeId × Value → H) :
    ReturnsInHanded {} Try.checked os 7 .any (Rows.scriptPicksSpec.pre6 enc Try.prog Try.f7 Rows.scriptPicksRow.domain false) (Rows.scriptPicksSpec.post enc Try.prog Try.f7 false true false false) := by
  refine returnsInHanded_of_change (C := Try.checked) own started (by kernel_rfl) Try.func7
    (ChangeSpec.witness6 (enc := enc) (C := Try.checked) false ⟨#[], #[.agg #[.int .i64 0, .int .i64 0, .int .i64 0, .int .i64 0, .int .i64 0, .int .i64 0, .slice none 0 0, .slice none 0 0, .slice none 0 0, .slice none 0 0], .slice none 0 0, .slice none 0 0], []⟩ 8 (by kernel_rfl) (by kernel_rfl) (by kernel_rfl) (by kernel_rfl)) ?_
  intro W base args ds gs before hval0 hW hcnd _
  have hval : ∀ (j : Nat) t v, Try.f7.params[j]? = some t → args[j]? = some v → Value.okWide Try.prog W .any base t v := hval0
  have hW' := hW
  obtain ⟨p, q, hA0, hV, rfl, hfz, hnd⟩ := hW
  have hA : DataW.TrodAll enc Try.prog W 0 (fun _ => true) true Try.f7.params.toList args.toList ds p := hA0
  rw [Try.params7] at hA hval
  obtain ⟨v0, vs0, d0, ds0, p0, q0, hargs, rfl, rfl, h0, r0⟩ := trodAll_cons hA
  obtain ⟨v1, vs1, d1, ds1, p1, q1, rfl, rfl, rfl, h1, r1⟩ := trodAll_cons r0
  obtain ⟨v2, vs2, d2, ds2, p2, q2, rfl, rfl, rfl, h2, r2⟩ := trodAll_cons r1
  obtain ⟨rfl, rfl, rfl⟩ := trodAll_nil r2
  obtain rfl : args = #[v0, v1, v2] := by cases args; simp_all
  obtain ⟨rfl, rfl⟩ := trodVars_none hV
  obtain ⟨cs0, rfl, sz0⟩ := okWide_struct Try.underlying34 (hval 0 34 v0 rfl rfl)
  have k0 := h0
  have lt0 : ∀ x ∈ p0, x.block < W.heap.size := by obtain ⟨m, hm⟩ := k0; exact DataW.trod_lt m _ _ _ hm
  obtain ⟨s0, fv0, dv0, av0, pv0, rfl, c0, w0, y0⟩ : ∃ (s : Scr) (fv dv av pv : Value), cs0 = ⟨cfC s.c ++ [fv, dv, av, pv]⟩ ∧ s.c.Wf ∧ ScrAt W s fv dv av pv ∧ Bytes s.draws := by
    obtain ⟨fuel, hf⟩ := h0
    exact script_arg (sz0.trans (by kernel_rfl)) hf
  obtain ⟨a1, len1, cap1, rfl⟩ := okWide_slice Try.underlying22 (hval 1 22 v1 rfl rfl)
  have k1 := h1
  have lt1 : ∀ x ∈ p1, x.block < W.heap.size := by obtain ⟨m, hm⟩ := k1; exact DataW.trod_lt m _ _ _ hm
  obtain ⟨z1, w1⟩ : ∃ z, IsRow .u8 W a1 len1 cap1 z := by
    obtain ⟨fuel, hf⟩ := h1
    exact isRow_of Try.underlying22 Try.underlying5 (by kernel_rfl) hf
  obtain ⟨a2, len2, cap2, rfl⟩ := okWide_slice Try.underlying22 (hval 2 22 v2 rfl rfl)
  have k2 := h2
  have lt2 : ∀ x ∈ p2, x.block < W.heap.size := by obtain ⟨m, hm⟩ := k2; exact DataW.trod_lt m _ _ _ hm
  obtain ⟨z2, w2⟩ : ∃ z, IsRow .u8 W a2 len2 cap2 z := by
    obtain ⟨fuel, hf⟩ := h2
    exact isRow_of Try.underlying22 Try.underlying5 (by kernel_rfl) hf
  clear hA0 hval0
  refine (walk s0 fv0 dv0 av0 pv0 a1 len1 cap1 z1 a2 len2 cap2 z2 W c0 w0 y0 w1 w2).mono fun e W' ⟨he, bel⟩ => ?_
  subst he
  exact ⟨_, rfl, _, _, _, [], _, [], hW', trodAll_mk1 (shut_bool Try.underlying4 _), (trodAll_cons_mk (Below.trod laidOut (by kernel_rfl) (of_decide_eq_true (by kernel_rfl)) k0 bel lt0) (trodAll_cons_mk (Below.trod laidOut (by kernel_rfl) (of_decide_eq_true (by kernel_rfl)) k1 bel lt1) (trodAll_cons_mk (Below.trod laidOut (by kernel_rfl) (of_decide_eq_true (by kernel_rfl)) k2 bel lt2) trodAll_mk0))), rfl, bel.frame _, fun h => by cases h⟩

theorem over : Rows.scriptPicksRow.holds Try.pinned (OpenSpec.ofChange Rows.scriptPicksSpec) :=
  OpenClaim.holds_of_wide 7 Try.f7 rfl rfl rfl rfl rfl rfl rfl ⟨rfl, rfl, rfl, rfl, rfl⟩ rfl rfl rfl rfl rfl (by kernel_rfl) Try.func7 (by kernel_rfl)
    (of_decide_eq_true (by kernel_rfl)) (by unfold Func.isWrapper; first | (rw [if_pos (by decide +kernel)]; kernel_rfl) | (rw [if_neg (by decide +kernel)]; exact ⟨rfl, rfl⟩))
    (fun os started H enc _ => lifted os started H enc)

theorem proved : Rows.ScriptPicksSaid := over
#print axioms proved
end Go.Proofs.Ytinmhefkmjlelaa.scriptPicks
