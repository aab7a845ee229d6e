/-
  ScriptBack: what was put is got as it was, and what was got is put as those bytes; for any script and any bytes.
  Conditions: none (of more than the law goes through, it says nothing by itself).
-/
import Derived.Test.YtinmhefkmjlelaaPz
import Derived.Test.YtinmhefkmjlelaaRows
import Derived.Deep.QuietTactic
import Derived.BigQuiet
namespace Go.Proofs.Ytinmhefkmjlelaa.scriptBack
open Go.ChangeShapes Go.WideShapes Go.ChangeAt Go.RowKit Go.Proofs.Ytinmhefkmjlelaa.base Go.Proofs.Ytinmhefkmjlelaa.lg Go.Proofs.Ytinmhefkmjlelaa.md Go.Proofs.Ytinmhefkmjlelaa.sc
set_option linter.unusedVariables false
set_option maxRecDepth 100000
set_option linter.unusedSimpArgs false

set_option maxHeartbeats 4000000 in
theorem walkIn (co ct cr ck cm cw : Int) (f d p : List Int) (A : List (List (List Op3))) (fa : Option Addr) (fc : Nat) (da : Option Addr) (dc : Nat) (aa : Option Addr) (ac : Nat) (pa : Option Addr) (pc : Nat) (a1 : Option Addr) (cap1 : Nat) (M : List Int) (w : World) (hs : ScrAt w ⟨⟨co, ct, cr, ck, cm, cw⟩, f, d, A, p⟩ (.slice fa f.length fc) (.slice da d.length dc) (.slice aa A.length ac) (.slice pa p.length pc)) (hd : Bytes d) (hM : IsB w a1 M) (hc : M.length ≤ cap1 ∧ cap1 ≤ maxLen) : Calls Try.prog 5 #[.agg #[.int .i64 co, .int .i64 ct, .int .i64 cr, .int .i64 ck, .int .i64 cm, .int .i64 cw, .slice fa f.length fc, .slice da d.length dc, .slice aa A.length ac, .slice pa p.length pc], .slice a1 M.length cap1] w fun e w' => e = .returned (.bool true) ∧ Below w.heap.size w w' := by
  have HM := Lib.hid hM
  have HD := Lib.hid hd
  have HC := Lib.hid hc
  clear hM hd hc
  have O1 : Hid (Own w (w.alloc (.cells #[.int .i64 co, .int .i64 ct, .int .i64 cr, .int .i64 ck, .int .i64 cm, .int .i64 cw, .slice fa f.length fc, .slice da d.length dc, .slice aa A.length ac, .slice pa p.length pc] 34)) [(w.heap.size, 34, [.int .i64 co, .int .i64 ct, .int .i64 cr, .int .i64 ck, .int .i64 cm, .int .i64 cw, .slice fa f.length fc, .slice da d.length dc, .slice aa A.length ac, .slice pa p.length pc])]) := (Own.start w).alloc 34 [.int .i64 co, .int .i64 ct, .int .i64 cr, .int .i64 ck, .int .i64 cm, .int .i64 cw, .slice fa f.length fc, .slice da d.length dc, .slice aa A.length ac, .slice pa p.length pc]; have HS := Lib.hid hs; clear hs; go_enter Try.func5, Try.ntmps5; go_wp2_with fail; generalize w.alloc _ = v at *; (obtain ⟨sb, hsb⟩ : ∃ sb, sb = w.heap.size := ⟨_, rfl⟩); rw [← hsb] at O1 ⊢; have HSB := Lib.hid hsb; clear hsb; refine (alive_any v).mono ?_; rintro r u ⟨rfl, g⟩; have O2 := Lib.hid (O1.out.grown g.out); clear O1 g; have d0 := O2.out.cell 0 0 rfl rfl; have d1 := O2.out.cell 0 1 rfl rfl; have d2 := O2.out.cell 0 2 rfl rfl; have d3 := O2.out.cell 0 3 rfl rfl; have d4 := O2.out.cell 0 4 rfl rfl; have d5 := O2.out.cell 0 5 rfl rfl; have d6 := O2.out.cell 0 6 rfl rfl; have d7 := O2.out.cell 0 7 rfl rfl; have d8 := O2.out.cell 0 8 rfl rfl; have d9 := O2.out.cell 0 9 rfl rfl; go_wp2_with fail; refine (great_lit co ct cr ck cm cw f d p A fa fc da dc aa ac pa pc u (HS.out.grown O2.out.grow)).mono ?_; rintro r u2 ⟨rfl, g⟩; have O3 := Lib.hid (O2.out.grown g.out); clear O2 g; clear d0 d1 d2 d3 d4 d5 d6 d7 d8 d9; have d0 := O3.out.cell 0 0 rfl rfl; have d1 := O3.out.cell 0 1 rfl rfl; have d2 := O3.out.cell 0 2 rfl rfl; have d3 := O3.out.cell 0 3 rfl rfl; have d4 := O3.out.cell 0 4 rfl rfl; have d5 := O3.out.cell 0 5 rfl rfl; have d6 := O3.out.cell 0 6 rfl rfl; have d7 := O3.out.cell 0 7 rfl rfl; have d8 := O3.out.cell 0 8 rfl rfl; have d9 := O3.out.cell 0 9 rfl rfl
  cases hfit : fits ⟨⟨co, ct, cr, ck, cm, cw⟩, f, d, A, p⟩ with
  | false =>
    go_wp2
    go_ret
    exact ⟨rfl, gb_below O3.out.grow⟩
  | true =>
  obtain ⟨q1, q2, q3, q4, q5, q6⟩ := fits_at hfit
  dsimp only at q1 q2 q3 q4 q5 q6
  have Q5 := Lib.hid q5
  have Q6 := Lib.hid q6
  clear hfit q5 q6
  by_cases hm3 : 3000 < M.length
  · have hm3I : (3000 : Int) < (M.length : Int) := by omega
    go_wp2
    go_ret
    exact ⟨rfl, gb_below O3.out.grow⟩
  have hm3d : decide ((3000 : Int) < (M.length : Int)) = false := by simp; omega
  go_wp2_with fail
  refine (of_lit co ct cr ck cm cw f d p A fa fc da dc aa ac pa pc _).mono ?_
  rintro r u3 ⟨rfl, g⟩
  have O4 := Lib.hid (O3.out.grown g.out)
  clear O3 g hm3d
  clear d0 d1 d2 d3 d4 d5 d6 d7 d8 d9
  go_wp2_with fail
  cases hok : Scr.ok ⟨⟨co, ct, cr, ck, cm, cw⟩, f, d, A, p⟩ with
  | false =>
    refine (put_err_any co ct cr ck cm cw f d p A fa fc da dc aa ac pa pc u3 (HS.out.grown O4.out.grow) HD.out (by omega) (by omega) (by omega) (by omega) hok).mono ?_
    rintro r u4 ⟨rfl, g⟩
    have G4 := Lib.hid (gb_trans O4.out.grow g.out)
    clear O4 g hok HS
    go_wp2_with fail
    refine (got_any a1 cap1 M u4 (HM.out.grown G4.out) HC.out.1 HC.out.2 (by omega)).mono ?_
    rintro r u20 ⟨g, ⟨s2, fv, dv, av, pv, hr, E, OT⟩ | ⟨pl, er, hr, he, E⟩⟩
    · obtain ⟨hok2, hput⟩ := put_get HM.out.2 E.out
      obtain ⟨l1, l2, l3, l4, l5⟩ := ok_bounds hok2
      rw [hput] at l5
      obtain ⟨ha, hc, ia, ic, ja, jc, ka, kc, rfl, rfl, rfl, rfl⟩ := cells_of OT.out
      obtain ⟨⟨do_, dt, dr, dk, dm, dw⟩, ff, dd, AA, pp⟩ := s2
      obtain rfl : r = .returned (.tuple #[.agg #[.int .i64 do_, .int .i64 dt, .int .i64 dr, .int .i64 dk, .int .i64 dm, .int .i64 dw, .slice ha ff.length hc, .slice ia dd.length ic, .slice ja AA.length jc, .slice ka pp.length kc], .int .i64 (-1), .int .i64 0]) := hr
      dsimp only at l1 l2 l3 l4 l5
      have OK2 := Lib.hid hok2
      have HP := Lib.hid hput
      have L4 := Lib.hid l4
      have O20 : Hid (Own w (u20.alloc (.cells #[.int .i64 do_, .int .i64 dt, .int .i64 dr, .int .i64 dk, .int .i64 dm, .int .i64 dw, .slice ha ff.length hc, .slice ia dd.length ic, .slice ja AA.length jc, .slice ka pp.length kc] 30)) [(u20.heap.size, 30, [.int .i64 do_, .int .i64 dt, .int .i64 dr, .int .i64 dk, .int .i64 dm, .int .i64 dw, .slice ha ff.length hc, .slice ia dd.length ic, .slice ja AA.length jc, .slice ka pp.length kc])]) := (Own.drop (M := []) ((Own.start w).grown (gb_trans G4.out g.out)) (List.nil_sublist _)).alloc 30 [.int .i64 do_, .int .i64 dt, .int .i64 dr, .int .i64 dk, .int .i64 dm, .int .i64 dw, .slice ha ff.length hc, .slice ia dd.length ic, .slice ja AA.length jc, .slice ka pp.length kc]
      have OT20 := Lib.hid (OT.out.grown (World.grownBy_alloc u20 (.cells #[.int .i64 do_, .int .i64 dt, .int .i64 dr, .int .i64 dk, .int .i64 dm, .int .i64 dw, .slice ha ff.length hc, .slice ia dd.length ic, .slice ja AA.length jc, .slice ka pp.length kc] 30) none))
      clear g E OT hok2 hput l4 G4
      go_upto_region 11 with fail
      generalize u20.alloc _ = v20 at *
      generalize u20.heap.size = tc at *
      have d0 := O20.out.cell 0 0 rfl rfl; have d1 := O20.out.cell 0 1 rfl rfl; have d2 := O20.out.cell 0 2 rfl rfl; have d3 := O20.out.cell 0 3 rfl rfl; have d4 := O20.out.cell 0 4 rfl rfl; have d5 := O20.out.cell 0 5 rfl rfl; have d6 := O20.out.cell 0 6 rfl rfl; have d7 := O20.out.cell 0 7 rfl rfl; have d8 := O20.out.cell 0 8 rfl rfl; have d9 := O20.out.cell 0 9 rfl rfl
      go_wp2_with fail
      refine (put_ok_any do_ dt dr dk dm dw ff dd pp AA ha hc ia ic ja jc ka kc v20 OT20.out.at L4.out (by omega) (by omega) (by omega) (by omega) OK2.out).mono ?_
      rintro r u21 ⟨b9, m9, c9, rfl, g, hm9, R9⟩
      obtain rfl : m9 = M.length := by rw [owns_len R9.out, HP.out]
      have R10 := Lib.hid (show u21.ownsRow v20.heap.size 5 1 (.slice b9 M.length c9) M.length (numsC .u8 M) by have := R9.out; rwa [HP.out] at this)
      have O21 := Lib.hid (O20.out.grown g.out)
      have OT21 := Lib.hid (OT20.out.grown g.out)
      clear R9 O20 OT20 g hm9
      clear d0 d1 d2 d3 d4 d5 d6 d7 d8 d9
      have d0 := O21.out.cell 0 0 rfl rfl; have d1 := O21.out.cell 0 1 rfl rfl; have d2 := O21.out.cell 0 2 rfl rfl; have d3 := O21.out.cell 0 3 rfl rfl; have d4 := O21.out.cell 0 4 rfl rfl; have d5 := O21.out.cell 0 5 rfl rfl; have d6 := O21.out.cell 0 6 rfl rfl; have d7 := O21.out.cell 0 7 rfl rfl; have d8 := O21.out.cell 0 8 rfl rfl; have d9 := O21.out.cell 0 9 rfl rfl
      go_wp2_with fail
      refine (ok_lit do_ dt dr dk dm dw ff dd pp AA ha hc ia ic ja jc ka kc u21 OT21.out.at L4.out (by omega) (by omega) (by omega) (by omega)).mono ?_
      rw [OK2.out]
      rintro r u22 ⟨rfl, g⟩
      have O22 := Lib.hid (O21.out.grown g.out)
      have R22 := Lib.hid ((KeepT.grown (P := fun _ => True) g.out).own R10.out trivial)
      have hv1 := conv_str u22 b9 M.length c9 (at0 M) (IsNums.of_own (numsC_eq .u8 M ▸ R22.out))
      have hv2 := conv_str u22 a1 M.length cap1 (at0 M) (HM.out.grown O22.out.grow).1
      generalize bs (at0 M) M.length = X at *
      clear OT21 R10 R22 O21 g
      clear d0 d1 d2 d3 d4 d5 d6 d7 d8 d9
      go_wp2
      go_ret
      exact ⟨rfl, gb_below O22.out.grow⟩
    · obtain rfl : r = .returned (.tuple #[.agg #[.int .i64 0, .int .i64 0, .int .i64 0, .int .i64 0, .int .i64 0, .int .i64 0, .slice none 0 0, .slice none 0 0, .slice none 0 0, .slice none 0 0], .int .i64 pl, .int .i64 er]) := hr
      have he' : (er != 0) = true := by simp [he]
      have G20 := Lib.hid (gb_trans G4.out g.out)
      clear g E
      go_wp2
      go_ret
      exact ⟨rfl, gb_below (gb_alloc G20.out _)⟩
  | true =>
    refine (put_ok_any co ct cr ck cm cw f d p A fa fc da dc aa ac pa pc u3 (HS.out.grown O4.out.grow) HD.out (by omega) (by omega) (by omega) (by omega) hok).mono ?_
    rintro r u4 ⟨b, m, c, rfl, g, hm, R⟩
    have O5 := Lib.hid (O4.out.grown g.out)
    have R5 := Lib.hid R.out
    have OKC := Lib.hid hok
    clear O4 g R hok
    go_wp2_with fail
    refine (get_ok_own R5.out (bytes_put OKC.out) (by omega) co ct cr ck cm cw f d p A (get_put OKC.out)).mono ?_
    rintro r u8 ⟨ga, gc, ea, ec, ba, bc, qa, qc, rfl, g, OS⟩
    have O8 : Hid (Own w (u8.alloc (.cells #[.int .i64 co, .int .i64 ct, .int .i64 cr, .int .i64 ck, .int .i64 cm, .int .i64 cw, .slice ga f.length gc, .slice ea d.length ec, .slice ba A.length bc, .slice qa p.length qc] 30)) [(u8.heap.size, 30, [.int .i64 co, .int .i64 ct, .int .i64 cr, .int .i64 ck, .int .i64 cm, .int .i64 cw, .slice ga f.length gc, .slice ea d.length ec, .slice ba A.length bc, .slice qa p.length qc]), (sb, 34, [.int .i64 co, .int .i64 ct, .int .i64 cr, .int .i64 ck, .int .i64 cm, .int .i64 cw, .slice fa f.length fc, .slice da d.length dc, .slice aa A.length ac, .slice pa p.length pc])]) := (O5.out.grown g.out).alloc 30 [.int .i64 co, .int .i64 ct, .int .i64 cr, .int .i64 ck, .int .i64 cm, .int .i64 cw, .slice ga f.length gc, .slice ea d.length ec, .slice ba A.length bc, .slice qa p.length qc]
    have OS8 := Lib.hid (OS.out.grown (World.grownBy_alloc u8 (.cells #[.int .i64 co, .int .i64 ct, .int .i64 cr, .int .i64 ck, .int .i64 cm, .int .i64 cw, .slice ga f.length gc, .slice ea d.length ec, .slice ba A.length bc, .slice qa p.length qc] 30) none))
    clear g O5 R5 OS OKC
    go_upto_region 8 with fail
    generalize u8.alloc _ = v8 at *
    generalize u8.heap.size = tb at *
    have d0 := O8.out.cell 1 0 rfl rfl; have d1 := O8.out.cell 1 1 rfl rfl; have d2 := O8.out.cell 1 2 rfl rfl; have d3 := O8.out.cell 1 3 rfl rfl; have d4 := O8.out.cell 1 4 rfl rfl; have d5 := O8.out.cell 1 5 rfl rfl; have d6 := O8.out.cell 1 6 rfl rfl; have d7 := O8.out.cell 1 7 rfl rfl; have d8 := O8.out.cell 1 8 rfl rfl; have d9 := O8.out.cell 1 9 rfl rfl
    have x0 := O8.out.cell 0 0 rfl rfl
    have x1 := O8.out.cell 0 1 rfl rfl
    have x2 := O8.out.cell 0 2 rfl rfl
    have x3 := O8.out.cell 0 3 rfl rfl
    have x4 := O8.out.cell 0 4 rfl rfl
    have x5 := O8.out.cell 0 5 rfl rfl
    have x6 := O8.out.cell 0 6 rfl rfl
    have x7 := O8.out.cell 0 7 rfl rfl
    have x8 := O8.out.cell 0 8 rfl rfl
    have x9 := O8.out.cell 0 9 rfl rfl
    go_wp2_with fail
    refine (same_lit co ct cr ck cm cw f d p A ga gc ea ec ba bc qa qc v8 OS8.out.at (by omega) (by omega) (by omega) fa fc da dc aa ac pa pc (HS.out.grown O8.out.grow) (fun t ht => by have := Q5.out t ht; omega) (fun t ht x hx => by have := Q6.out t ht x hx; omega)).mono ?_
    rintro r u14 ⟨rfl, g⟩
    have G14 := Lib.hid (gb_trans O8.out.grow g.out)
    clear O8 OS8 g HS x0 x1 x2 x3 x4 x5 x6 x7 x8 x9
    clear d0 d1 d2 d3 d4 d5 d6 d7 d8 d9
    go_wp2_with fail
    refine (got_any a1 cap1 M u14 (HM.out.grown G14.out) HC.out.1 HC.out.2 (by omega)).mono ?_
    rintro r u20 ⟨g, ⟨s2, fv, dv, av, pv, hr, E, OT⟩ | ⟨pl, er, hr, he, E⟩⟩
    · obtain ⟨hok2, hput⟩ := put_get HM.out.2 E.out
      obtain ⟨l1, l2, l3, l4, l5⟩ := ok_bounds hok2
      rw [hput] at l5
      obtain ⟨ha, hc, ia, ic, ja, jc, ka, kc, rfl, rfl, rfl, rfl⟩ := cells_of OT.out
      obtain ⟨⟨do_, dt, dr, dk, dm, dw⟩, ff, dd, AA, pp⟩ := s2
      obtain rfl : r = .returned (.tuple #[.agg #[.int .i64 do_, .int .i64 dt, .int .i64 dr, .int .i64 dk, .int .i64 dm, .int .i64 dw, .slice ha ff.length hc, .slice ia dd.length ic, .slice ja AA.length jc, .slice ka pp.length kc], .int .i64 (-1), .int .i64 0]) := hr
      dsimp only at l1 l2 l3 l4 l5
      have OK2 := Lib.hid hok2
      have HP := Lib.hid hput
      have L4 := Lib.hid l4
      have O20 : Hid (Own w (u20.alloc (.cells #[.int .i64 do_, .int .i64 dt, .int .i64 dr, .int .i64 dk, .int .i64 dm, .int .i64 dw, .slice ha ff.length hc, .slice ia dd.length ic, .slice ja AA.length jc, .slice ka pp.length kc] 30)) [(u20.heap.size, 30, [.int .i64 do_, .int .i64 dt, .int .i64 dr, .int .i64 dk, .int .i64 dm, .int .i64 dw, .slice ha ff.length hc, .slice ia dd.length ic, .slice ja AA.length jc, .slice ka pp.length kc])]) := (Own.drop (M := []) ((Own.start w).grown (gb_trans G14.out g.out)) (List.nil_sublist _)).alloc 30 [.int .i64 do_, .int .i64 dt, .int .i64 dr, .int .i64 dk, .int .i64 dm, .int .i64 dw, .slice ha ff.length hc, .slice ia dd.length ic, .slice ja AA.length jc, .slice ka pp.length kc]
      have OT20 := Lib.hid (OT.out.grown (World.grownBy_alloc u20 (.cells #[.int .i64 do_, .int .i64 dt, .int .i64 dr, .int .i64 dk, .int .i64 dm, .int .i64 dw, .slice ha ff.length hc, .slice ia dd.length ic, .slice ja AA.length jc, .slice ka pp.length kc] 30) none))
      clear g E OT hok2 hput l4 G14
      go_upto_region 11 with fail
      generalize u20.alloc _ = v20 at *
      generalize u20.heap.size = tc at *
      have d0 := O20.out.cell 0 0 rfl rfl; have d1 := O20.out.cell 0 1 rfl rfl; have d2 := O20.out.cell 0 2 rfl rfl; have d3 := O20.out.cell 0 3 rfl rfl; have d4 := O20.out.cell 0 4 rfl rfl; have d5 := O20.out.cell 0 5 rfl rfl; have d6 := O20.out.cell 0 6 rfl rfl; have d7 := O20.out.cell 0 7 rfl rfl; have d8 := O20.out.cell 0 8 rfl rfl; have d9 := O20.out.cell 0 9 rfl rfl
      go_wp2_with fail
      refine (put_ok_any do_ dt dr dk dm dw ff dd pp AA ha hc ia ic ja jc ka kc v20 OT20.out.at L4.out (by omega) (by omega) (by omega) (by omega) OK2.out).mono ?_
      rintro r u21 ⟨b9, m9, c9, rfl, g, hm9, R9⟩
      obtain rfl : m9 = M.length := by rw [owns_len R9.out, HP.out]
      have R10 := Lib.hid (show u21.ownsRow v20.heap.size 5 1 (.slice b9 M.length c9) M.length (numsC .u8 M) by have := R9.out; rwa [HP.out] at this)
      have O21 := Lib.hid (O20.out.grown g.out)
      have OT21 := Lib.hid (OT20.out.grown g.out)
      clear R9 O20 OT20 g hm9
      clear d0 d1 d2 d3 d4 d5 d6 d7 d8 d9
      have d0 := O21.out.cell 0 0 rfl rfl; have d1 := O21.out.cell 0 1 rfl rfl; have d2 := O21.out.cell 0 2 rfl rfl; have d3 := O21.out.cell 0 3 rfl rfl; have d4 := O21.out.cell 0 4 rfl rfl; have d5 := O21.out.cell 0 5 rfl rfl; have d6 := O21.out.cell 0 6 rfl rfl; have d7 := O21.out.cell 0 7 rfl rfl; have d8 := O21.out.cell 0 8 rfl rfl; have d9 := O21.out.cell 0 9 rfl rfl
      go_wp2_with fail
      refine (ok_lit do_ dt dr dk dm dw ff dd pp AA ha hc ia ic ja jc ka kc u21 OT21.out.at L4.out (by omega) (by omega) (by omega) (by omega)).mono ?_
      rw [OK2.out]
      rintro r u22 ⟨rfl, g⟩
      have O22 := Lib.hid (O21.out.grown g.out)
      have R22 := Lib.hid ((KeepT.grown (P := fun _ => True) g.out).own R10.out trivial)
      have hv1 := conv_str u22 b9 M.length c9 (at0 M) (IsNums.of_own (numsC_eq .u8 M ▸ R22.out))
      have hv2 := conv_str u22 a1 M.length cap1 (at0 M) (HM.out.grown O22.out.grow).1
      generalize bs (at0 M) M.length = X at *
      clear OT21 R10 R22 O21 g
      clear d0 d1 d2 d3 d4 d5 d6 d7 d8 d9
      go_wp2
      go_ret
      exact ⟨rfl, gb_below O22.out.grow⟩
    · obtain rfl : r = .returned (.tuple #[.agg #[.int .i64 0, .int .i64 0, .int .i64 0, .int .i64 0, .int .i64 0, .int .i64 0, .slice none 0 0, .slice none 0 0, .slice none 0 0, .slice none 0 0], .int .i64 pl, .int .i64 er]) := hr
      have he' : (er != 0) = true := by simp [he]
      have G20 := Lib.hid (gb_trans G14.out g.out)
      clear g E
      go_wp2
      go_ret
      exact ⟨rfl, gb_below (gb_alloc G20.out _)⟩

theorem walk (s : Scr) (fv dv av pv : Value) (a1 : Option Addr) (len1 cap1 : Nat) (z1 : Nat → Int) (w : World) (c0 : s.c.Wf) (w0 : ScrAt w s fv dv av pv) (y0 : Bytes s.draws) (w1 : IsRow .u8 w a1 len1 cap1 z1) :
    Calls Try.prog 5 #[.agg ⟨cfC s.c ++ [fv, dv, av, pv]⟩, .slice a1 len1 cap1] w fun e w' => e = .returned (.bool true) ∧ Below w.heap.size w w' := by
  obtain ⟨⟨co, ct, cr, ck, cm, cw⟩, f, d, A, p⟩ := s
  have h0 := w0
  obtain ⟨⟨fa, fc, rfl, _⟩, ⟨da, dc, rfl, _⟩, ⟨aa, ac, rfl, _⟩, ⟨pa, pc, rfl, _⟩⟩ := h0
  obtain ⟨a'', c'', e1, hN1⟩ := NumsAt.of_row w1
  have hlen1 := numsL_len len1 z1
  have hB1 := numsL_bytes w1
  have hc : len1 ≤ cap1 ∧ cap1 ≤ maxLen := ⟨w1.1, w1.2.1⟩
  clear w1
  generalize numsL len1 z1 = M1 at *
  subst hlen1
  cases e1
  exact walkIn co ct cr ck cm cw f d p A fa fc da dc aa ac pa pc a1 cap1 M1 w w0 y0 ⟨hN1, hB1⟩ hc

theorem own : ownKnob Try.prog.godebug = none := by kernel_rfl
theorem laidOut : laidOutB Try.prog = true := by kernel_rfl

/-! ### THE ROW's STEP, as the guide has it -/
set_option maxRecDepth 100000 in
theorem lifted (os : Os) (started : os.Started) (H : Type) (enc : TypeId × Value → H) :
    ReturnsInHanded {} Try.checked os 5 .any (Rows.scriptBackSpec.pre6 enc Try.prog Try.f5 Rows.scriptBackRow.domain false) (Rows.scriptBackSpec.post enc Try.prog Try.f5 false true false false) := by
  refine returnsInHanded_of_change (C := Try.checked) own started (by kernel_rfl) Try.func5
    (ChangeSpec.witness6 (enc := enc) (C := Try.checked) false ⟨#[], #[.agg #[.int .i64 0, .int .i64 0, .int .i64 0, .int .i64 0, .int .i64 0, .int .i64 0, .slice none 0 0, .slice none 0 0, .slice none 0 0, .slice none 0 0], .slice none 0 0], []⟩ 8 (by kernel_rfl) (by kernel_rfl) (by kernel_rfl) (by kernel_rfl)) ?_
  intro W base args ds gs before hval0 hW hcnd _
  have hval : ∀ (j : Nat) t v, Try.f5.params[j]? = some t → args[j]? = some v → Value.okWide Try.prog W .any base t v := hval0
  have hW' := hW
  obtain ⟨p, q, hA0, hV, rfl, hfz, hnd⟩ := hW
  have hA : DataW.TrodAll enc Try.prog W 0 (fun _ => true) true Try.f5.params.toList args.toList ds p := hA0
  rw [Try.params5] at hA hval
  obtain ⟨v0, vs0, d0, ds0, p0, q0, hargs, rfl, rfl, h0, r0⟩ := trodAll_cons hA
  obtain ⟨v1, vs1, d1, ds1, p1, q1, rfl, rfl, rfl, h1, r1⟩ := trodAll_cons r0
  obtain ⟨rfl, rfl, rfl⟩ := trodAll_nil r1
  obtain rfl : args = #[v0, v1] := by cases args; simp_all
  obtain ⟨rfl, rfl⟩ := trodVars_none hV
  obtain ⟨cs0, rfl, sz0⟩ := okWide_struct Try.underlying34 (hval 0 34 v0 rfl rfl)
  have k0 := h0
  have lt0 : ∀ x ∈ p0, x.block < W.heap.size := by obtain ⟨m, hm⟩ := k0; exact DataW.trod_lt m _ _ _ hm
  obtain ⟨s0, fv0, dv0, av0, pv0, rfl, c0, w0, y0⟩ : ∃ (s : Scr) (fv dv av pv : Value), cs0 = ⟨cfC s.c ++ [fv, dv, av, pv]⟩ ∧ s.c.Wf ∧ ScrAt W s fv dv av pv ∧ Bytes s.draws := by
    obtain ⟨fuel, hf⟩ := h0
    exact script_arg (sz0.trans (by kernel_rfl)) hf
  obtain ⟨a1, len1, cap1, rfl⟩ := okWide_slice Try.underlying22 (hval 1 22 v1 rfl rfl)
  have k1 := h1
  have lt1 : ∀ x ∈ p1, x.block < W.heap.size := by obtain ⟨m, hm⟩ := k1; exact DataW.trod_lt m _ _ _ hm
  obtain ⟨z1, w1⟩ : ∃ z, IsRow .u8 W a1 len1 cap1 z := by
    obtain ⟨fuel, hf⟩ := h1
    exact isRow_of Try.underlying22 Try.underlying5 (by kernel_rfl) hf
  clear hA0 hval0
  refine (walk s0 fv0 dv0 av0 pv0 a1 len1 cap1 z1 W c0 w0 y0 w1).mono fun e W' ⟨he, bel⟩ => ?_
  subst he
  exact ⟨_, rfl, _, _, _, [], _, [], hW', trodAll_mk1 (shut_bool Try.underlying4 _), (trodAll_cons_mk (Below.trod laidOut (by kernel_rfl) (of_decide_eq_true (by kernel_rfl)) k0 bel lt0) (trodAll_cons_mk (Below.trod laidOut (by kernel_rfl) (of_decide_eq_true (by kernel_rfl)) k1 bel lt1) trodAll_mk0)), rfl, bel.frame _, fun h => by cases h⟩

theorem over : Rows.scriptBackRow.holds Try.pinned (OpenSpec.ofChange Rows.scriptBackSpec) :=
  OpenClaim.holds_of_wide 5 Try.f5 rfl rfl rfl rfl rfl rfl rfl ⟨rfl, rfl, rfl, rfl, rfl⟩ rfl rfl rfl rfl rfl (by kernel_rfl) Try.func5 (by kernel_rfl)
    (of_decide_eq_true (by kernel_rfl)) (by unfold Func.isWrapper; first | (rw [if_pos (by decide +kernel)]; kernel_rfl) | (rw [if_neg (by decide +kernel)]; exact ⟨rfl, rfl⟩))
    (fun os started H enc _ => lifted os started H enc)

theorem proved : Rows.ScriptBackSaid := over
#print axioms proved
end Go.Proofs.Ytinmhefkmjlelaa.scriptBack
