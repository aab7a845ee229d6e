/- Texts of one's own, one behind the other: ScO, ScP. -/
import Derived.Test.YtinmhefkmjlelaaPz
import Derived.Deep.RegionHeld3
import Derived.BigRegion
/- The document's own answer for package script: quarrelref20.Ok. -/
namespace Go.Proofs.Ytinmhefkmjlelaa.sc
open Go Go.RowKit Go.Proofs.Ytinmhefkmjlelaa.base Go.Proofs.Ytinmhefkmjlelaa.lg Go.Proofs.Ytinmhefkmjlelaa.md Go.Proofs.Ytinmhefkmjlelaa.fl
set_option linter.unusedVariables false
set_option linter.unusedSimpArgs false
set_option maxRecDepth 100000

theorem errF_zero {o t r k m p : Int} {n : Nat} : errF o t r k m p n = 0 ↔ (Cfg.ok ⟨o, t, r, k, m, p⟩ = true ∧ (n : Int) = o ∧ 2 * (n : Int) ≤ r) := by
  have e := okC_ok ⟨o, t, r, k, m, p⟩
  dsimp only at e
  unfold errF
  rw [← e]
  by_cases h : okC o t r k m p = true
  · rw [if_pos h]
    by_cases h2 : (n : Int) = o
    · rw [if_pos h2]
      by_cases h3 : r < 2 * (n : Int)
      · rw [if_pos h3]
        exact ⟨fun h => by omega, fun ⟨_, _, h⟩ => by omega⟩
      · rw [if_neg h3]
        exact ⟨fun _ => ⟨h, h2, by omega⟩, fun _ => rfl⟩
    · rw [if_neg h2]
      exact ⟨fun h => by omega, fun ⟨_, h, _⟩ => absurd h h2⟩
  · rw [if_neg h]
    exact ⟨fun h => by omega, fun ⟨h', _⟩ => absurd h' h⟩

set_option maxHeartbeats 8000000 in
theorem refok_lit (co ct cr ck cm cw : Int) (f d p : List Int) (A : List (List (List Op3))) (fa : Option Addr) (fc : Nat) (da : Option Addr) (dc : Nat) (aa : Option Addr) (ac : Nat) (pa : Option Addr) (pc : Nat) (w : World) (hs : ScrAt w ⟨⟨co, ct, cr, ck, cm, cw⟩, f, d, A, p⟩ (.slice fa f.length fc) (.slice da d.length dc) (.slice aa A.length ac) (.slice pa p.length pc)) (hd : Bytes d) (h1 : f.length ≤ 1000) (h2 : A.length ≤ 100000) (h3 : p.length ≤ 100000) (h4 : d.length ≤ 100000) (h5 : ∀ t ∈ A, t.length ≤ 100000) (h6 : ∀ t ∈ A, ∀ x ∈ t, x.length ≤ maxLen) : Calls Try.prog 14 #[.agg #[.int .i64 co, .int .i64 ct, .int .i64 cr, .int .i64 ck, .int .i64 cm, .int .i64 cw, .slice fa f.length fc, .slice da d.length dc, .slice aa A.length ac, .slice pa p.length pc]] w fun r w' => r = .returned (.bool (Scr.ok ⟨⟨co, ct, cr, ck, cm, cw⟩, f, d, A, p⟩)) ∧ Hid (w.grownBy w' none) := by
  rw [scr_ok _ hd]
  obtain ⟨⟨a', c', e, f1⟩, _, ⟨a'', c'', e2, a1⟩, ⟨a''', c''', e3, p1⟩⟩ := hs
  cases e
  cases e2
  cases e3
  dsimp only at *
  have F1 := Lib.hid f1
  have A1 := Lib.hid a1
  have P1 := Lib.hid p1
  have H5 := Lib.hid h5
  have H6 := Lib.hid h6
  clear f1 a1 p1 hd h5 h6
  obtain ⟨bb, hbb⟩ : ∃ bb, bb = (Cfg.ok ⟨co, ct, cr, ck, cm, cw⟩ && (decide (2 * co ≤ cr) && (decide ((f.length : Int) = co) && (inR (-128) 127 f && (decide ((A.length : Int) = ct) && (A.all (thOk co) && (decide (d.length ≤ 255) && inR 0 255 p))))))) := ⟨_, rfl⟩
  rw [← hbb]
  have HB := Lib.hid hbb
  clear hbb
  have O1 : Hid (Own w (w.alloc (.cells #[.int .i64 co, .int .i64 ct, .int .i64 cr, .int .i64 ck, .int .i64 cm, .int .i64 cw, .slice fa f.length fc, .slice da d.length dc, .slice aa A.length ac, .slice pa p.length pc] 34)) [(w.heap.size, 34, [.int .i64 co, .int .i64 ct, .int .i64 cr, .int .i64 ck, .int .i64 cm, .int .i64 cw, .slice fa f.length fc, .slice da d.length dc, .slice aa A.length ac, .slice pa p.length pc])]) := (Own.start w).alloc 34 [.int .i64 co, .int .i64 ct, .int .i64 cr, .int .i64 ck, .int .i64 cm, .int .i64 cw, .slice fa f.length fc, .slice da d.length dc, .slice aa A.length ac, .slice pa p.length pc]
  go_enter Try.func14, Try.ntmps14
  go_wp2_with fail
  generalize w.alloc _ = v at *
  generalize w.heap.size = sb at *
  refine (refnew_any co ct cr ck cm cw fa f.length fc h1 v).mono ?_
  rintro r u ⟨rfl, g⟩
  have O2 := Lib.hid (O1.out.grown g.out)
  clear O1 g
  obtain ⟨OL, hOL⟩ : ∃ OL : List (Nat × TypeId × List Value), OL = [(sb, 34, [.int .i64 co, .int .i64 ct, .int .i64 cr, .int .i64 ck, .int .i64 cm, .int .i64 cw, .slice fa f.length fc, .slice da d.length dc, .slice aa A.length ac, .slice pa p.length pc])] := ⟨_, rfl⟩
  rw [← hOL] at O2
  have HOL := Lib.hid hOL
  clear hOL
  have O' := Lib.hid (HOL.out ▸ O2.out); have d0 := O'.out.cell 0 0 rfl rfl; have d1 := O'.out.cell 0 1 rfl rfl; have d2 := O'.out.cell 0 2 rfl rfl; have d3 := O'.out.cell 0 3 rfl rfl; have d4 := O'.out.cell 0 4 rfl rfl; have d5 := O'.out.cell 0 5 rfl rfl; have d6 := O'.out.cell 0 6 rfl rfl; have d7 := O'.out.cell 0 7 rfl rfl; have d8 := O'.out.cell 0 8 rfl rfl; have d9 := O'.out.cell 0 9 rfl rfl; clear O'
  by_cases hz : errF co ct cr ck cm cw f.length = 0
  case neg =>
    have EE := Lib.hid (show bb = false by
      rw [HB.out]
      have hn := fun h => hz (errF_zero.2 h)
      cases hc : Cfg.ok ⟨co, ct, cr, ck, cm, cw⟩ with
      | false => rfl
      | true =>
        rw [hc] at hn
        by_cases h7 : (f.length : Int) = co
        · have h8 : ¬ 2 * co ≤ cr := fun h8 => hn ⟨rfl, h7, by omega⟩
          simp [h8]
        · simp [h7])
    have hz' : (errF co ct cr ck cm cw f.length != 0) = true := by simp [hz]
    go_wp2; go_ret; exact ⟨by rw [EE.out]; rfl, O2.out.grow⟩
  obtain ⟨z1, z2, z3⟩ := errF_zero.1 hz
  have HB2 := Lib.hid (show bb = (inR (-128) 127 f && (decide ((A.length : Int) = ct) && (A.all (thOk co) && (decide (d.length ≤ 255) && inR 0 255 p)))) by
    rw [HB.out, z1, show decide (2 * co ≤ cr) = true by simp; omega, show decide ((f.length : Int) = co) = true by simp; exact z2]
    rfl)
  clear z1 z2 z3 HB
  rw [hz]
  by_cases ht : (A.length : Int) = ct
  case neg =>
    have htd : ((A.length : Int) != ct) = true := by simp; omega
    have EE := Lib.hid (show bb = false by rw [HB2.out]; simp [ht])
    go_wp2; go_ret; exact ⟨by rw [EE.out]; rfl, O2.out.grow⟩
  have htd : ((A.length : Int) != ct) = false := by simp; omega
  by_cases hdl : d.length ≤ 255
  case neg =>
    have hdd : decide ((255 : Int) < (d.length : Int)) = true := by simp; omega
    have EE := Lib.hid (show bb = false by rw [HB2.out]; simp [hdl])
    go_wp2; go_ret; exact ⟨by rw [EE.out]; rfl, O2.out.grow⟩
  have hdd : decide ((255 : Int) < (d.length : Int)) = false := by simp; omega
  have HB3 := Lib.hid (show bb = (inR (-128) 127 f && (A.all (thOk co) && inR 0 255 p)) by
    rw [HB2.out, show decide ((A.length : Int) = ct) = true by simp; exact ht, show decide (d.length ≤ 255) = true by simp; exact hdl]
    rfl)
  clear HB2 ht hdl hz
  go_wp2_with fail
  clear htd hdd
  clear d0 d1 d2 d3 d4 d5 d6 d7 d8 d9
  go_loopw [3] (fun iv wr => ∃ k : Nat, k ≤ f.length ∧ iv = .int .i64 k ∧ Hid ((f.take k).all (fun x => decide (-128 ≤ x ∧ x ≤ 127)) = true) ∧ Hid (Own w wr OL)) (fun iv _ => (f.length - intOf iv).toNat)
  case atStart => exact ⟨0, by omega, rfl, by simp [Lib.hid, Hid], O2⟩
  case round =>
    clear O2
    obtain ⟨k, hk, rfl, T, O⟩ := hrel
    have O' := Lib.hid (HOL.out ▸ O.out); have d0 := O'.out.cell 0 0 rfl rfl; have d1 := O'.out.cell 0 1 rfl rfl; have d2 := O'.out.cell 0 2 rfl rfl; have d3 := O'.out.cell 0 3 rfl rfl; have d4 := O'.out.cell 0 4 rfl rfl; have d5 := O'.out.cell 0 5 rfl rfl; have d6 := O'.out.cell 0 6 rfl rfl; have d7 := O'.out.cell 0 7 rfl rfl; have d8 := O'.out.cell 0 8 rfl rfl; have d9 := O'.out.cell 0 9 rfl rfl; clear O'
    by_cases hlt : k < f.length
    · have hltI : (k : Int) < (f.length : Int) := by omega
      obtain ⟨b, off, rfl, hb, cx⟩ := (F1.out.grown O.out.grow).at1 hlt
      have HX := Lib.hid (at0_get hlt)
      generalize at0 f k = x at *
      by_cases h1 : x < -128
      · have EE := Lib.hid (show bb = false by rw [HB3.out]; unfold inR; rw [all_bad HX.out (by simp; omega)]; rfl)
        go_wp2; go_ret; exact ⟨by rw [EE.out]; rfl, O.out.grow⟩
      by_cases h2 : 127 < x
      · have EE := Lib.hid (show bb = false by rw [HB3.out]; unfold inR; rw [all_bad HX.out (by simp; omega)]; rfl)
        have h1d : decide (x < -128) = false := by simp; omega
        go_wp2; go_ret; exact ⟨by rw [EE.out]; rfl, O.out.grow⟩
      · have T2 := Lib.hid (show (f.take (k + 1)).all (fun x => decide (-128 ≤ x ∧ x ≤ 127)) = true by rw [all_succ HX.out, T.out]; simp; omega)
        have h1d : decide (x < -128) = false := by simp; omega
        have h2d : decide (127 < x) = false := by simp; omega
        go_wp2
        go_roundw
        case rel => exact ⟨k + 1, by omega, by go_num, T2, O⟩
        case measure => simp [intOf]; omega
    · obtain rfl : k = f.length := by omega
      have HB4 := Lib.hid (show bb = (A.all (thOk co) && inR 0 255 p) by
        rw [HB3.out]
        have := T.out
        rw [List.take_length] at this
        unfold inR at *
        rw [this]
        rfl)
      clear HB3 T hk hlt F1
      go_wp2_with fail
      clear d0 d1 d2 d3 d4 d5 d6 d7 d8 d9
      go_loopw [4] (fun iv wr => ∃ k : Nat, k ≤ p.length ∧ iv = .int .i64 k ∧ Hid ((p.take k).all (fun x => decide (0 ≤ x ∧ x ≤ 255)) = true) ∧ Hid (Own w wr OL)) (fun iv _ => (p.length - intOf iv).toNat)
      case atStart => exact ⟨0, by omega, rfl, by simp [Lib.hid, Hid], O⟩
      case round =>
        clear O
        obtain ⟨k, hk, rfl, T, O⟩ := hrel
        have O' := Lib.hid (HOL.out ▸ O.out); have d0 := O'.out.cell 0 0 rfl rfl; have d1 := O'.out.cell 0 1 rfl rfl; have d2 := O'.out.cell 0 2 rfl rfl; have d3 := O'.out.cell 0 3 rfl rfl; have d4 := O'.out.cell 0 4 rfl rfl; have d5 := O'.out.cell 0 5 rfl rfl; have d6 := O'.out.cell 0 6 rfl rfl; have d7 := O'.out.cell 0 7 rfl rfl; have d8 := O'.out.cell 0 8 rfl rfl; have d9 := O'.out.cell 0 9 rfl rfl; clear O'
        by_cases hlt : k < p.length
        · have hltI : (k : Int) < (p.length : Int) := by omega
          obtain ⟨b, off, rfl, hb, cx⟩ := (P1.out.grown O.out.grow).at1 hlt
          have HX := Lib.hid (at0_get hlt)
          generalize at0 p k = x at *
          by_cases h1 : x < 0
          · have EE := Lib.hid (show bb = false by rw [HB4.out]; unfold inR; rw [all_bad (l := p) HX.out (by simp; omega)]; simp)
            go_wp2; go_ret; exact ⟨by rw [EE.out]; rfl, O.out.grow⟩
          by_cases h2 : 255 < x
          · have EE := Lib.hid (show bb = false by rw [HB4.out]; unfold inR; rw [all_bad (l := p) HX.out (by simp; omega)]; simp)
            have h1d : decide (x < 0) = false := by simp; omega
            go_wp2; go_ret; exact ⟨by rw [EE.out]; rfl, O.out.grow⟩
          · have T2 := Lib.hid (show (p.take (k + 1)).all (fun x => decide (0 ≤ x ∧ x ≤ 255)) = true by rw [all_succ HX.out, T.out]; simp; omega)
            have h1d : decide (x < 0) = false := by simp; omega
            have h2d : decide (255 < x) = false := by simp; omega
            go_wp2
            go_roundw
            case rel => exact ⟨k + 1, by omega, by go_num, T2, O⟩
            case measure => simp [intOf]; omega
        · obtain rfl : k = p.length := by omega
          have HB5 := Lib.hid (show bb = A.all (thOk co) by
            rw [HB4.out]
            have := T.out
            rw [List.take_length] at this
            unfold inR
            rw [this]
            simp)
          clear HB4 T hk hlt P1
          go_wp2_with fail
          clear d0 d1 d2 d3 d4 d5 d6 d7 d8 d9
          go_loopw [5] (fun iv wr => ∃ k : Nat, k ≤ A.length ∧ iv = .int .i64 k ∧ Hid ((A.take k).all (thOk co) = true) ∧ Hid (Own w wr OL)) (fun iv _ => (A.length - intOf iv).toNat)
          case atStart => exact ⟨0, by omega, rfl, by simp [Lib.hid, Hid], O⟩
          case round =>
            clear O
            obtain ⟨k, hk, rfl, T, O⟩ := hrel
            have O' := Lib.hid (HOL.out ▸ O.out); have d0 := O'.out.cell 0 0 rfl rfl; have d1 := O'.out.cell 0 1 rfl rfl; have d2 := O'.out.cell 0 2 rfl rfl; have d3 := O'.out.cell 0 3 rfl rfl; have d4 := O'.out.cell 0 4 rfl rfl; have d5 := O'.out.cell 0 5 rfl rfl; have d6 := O'.out.cell 0 6 rfl rfl; have d7 := O'.out.cell 0 7 rfl rfl; have d8 := O'.out.cell 0 8 rfl rfl; have d9 := O'.out.cell 0 9 rfl rfl; clear O'
            by_cases hlt : k < A.length
            · have hltI : (k : Int) < (A.length : Int) := by omega
              obtain ⟨t, ht⟩ : ∃ t, A[k]? = some t := ⟨_, List.getElem?_eq_getElem hlt⟩
              have HX := Lib.hid ht
              have htm := List.mem_of_getElem? ht
              have ht5 := H5.out t htm
              have HT6 := Lib.hid (H6.out t htm)
              obtain ⟨b, off, v, rfl, hb, cx, a2, c2, rfl, Z2⟩ := A1.out.at ht
              have CX0 := Lib.hid cx
              have cx := O.out.grow.cell cx (by simp)
              have Y := Lib.hid Z2
              clear ht htm Z2
              by_cases h6 : 6 < t.length
              · have EE := Lib.hid (HB5.out.trans (all_bad HX.out (by unfold thOk; simp; omega)))
                have h6I : (6 : Int) < (t.length : Int) := by omega
                go_wp2; go_ret; exact ⟨by rw [EE.out]; rfl, O.out.grow⟩
              have h6d : decide ((6 : Int) < (t.length : Int)) = false := by simp; omega
              go_wp2_with fail
              clear cx h6d
              clear d0 d1 d2 d3 d4 d5 d6 d7 d8 d9
              go_loopw [6] (fun jv wr2 => ∃ m : Nat, m ≤ t.length ∧ jv = .int .i64 m ∧ Hid ((t.take m).all (txOk co) = true) ∧ Hid (Own w wr2 OL)) (fun jv _ => (t.length - intOf jv).toNat)
              case atStart => exact ⟨0, by omega, rfl, by simp [Lib.hid, Hid], O⟩
              case round =>
                clear O
                obtain ⟨m, hm, rfl, T1, O⟩ := hrel
                have O' := Lib.hid (HOL.out ▸ O.out); have d0 := O'.out.cell 0 0 rfl rfl; have d1 := O'.out.cell 0 1 rfl rfl; have d2 := O'.out.cell 0 2 rfl rfl; have d3 := O'.out.cell 0 3 rfl rfl; have d4 := O'.out.cell 0 4 rfl rfl; have d5 := O'.out.cell 0 5 rfl rfl; have d6 := O'.out.cell 0 6 rfl rfl; have d7 := O'.out.cell 0 7 rfl rfl; have d8 := O'.out.cell 0 8 rfl rfl; have d9 := O'.out.cell 0 9 rfl rfl; clear O'
                have cx := O.out.grow.cell CX0.out (by simp)
                by_cases hmt : m < t.length
                · have hmtI : (m : Int) < (t.length : Int) := by omega
                  obtain ⟨x, hx⟩ : ∃ x, t[m]? = some x := ⟨_, List.getElem?_eq_getElem hmt⟩
                  have HY := Lib.hid hx
                  obtain ⟨b2, off2, v2, rfl, hb2, cy, a3, c3, rfl, Z3⟩ := Y.out.at hx
                  have cy := O.out.grow.cell cy (by simp)
                  have RA := Lib.hid (fun (u : World) (g : World.grownBy wr u none) => rightB_opZ x co ▸ refright_any a3 x.length c3 (opZ x) co u (Z3.grown (gb_trans O.out.grow g)) (HT6.out x (List.mem_of_getElem? hx)))
                  clear hx Z3 d1 d2 d3 d4 d5 d6 d7 d9
                  go_upto_region 21 with fail
                  go_region_held3 (fun w' => w'.cell? ⟨sb, 8, none⟩ = some (.slice (some ⟨b, off, none⟩) A.length ac) ∧ w'.cell? ⟨sb, 0, none⟩ = some (.int .i64 co) ∧ w'.cell? ⟨b, off + k, none⟩ = some (.slice (some ⟨b2, off2, none⟩) t.length c2) ∧ w'.cell? ⟨b2, off2 + m, none⟩ = some (.slice a3 x.length c3)) (go_keep) ((go_at_call 28; refine (RA.out wr.drew (gb_drew (gb_refl _ _))).mono ?_; rintro r u ⟨rfl, g⟩; have G2 := Lib.hid (show World.grownBy wr u none from gb_trans (gb_drew (gb_refl wr none)) g.out); have d8 := G2.out.cell d8 (by simp); have d0 := G2.out.cell d0 (by simp); have cx := G2.out.cell cx (by simp); have cy := G2.out.cell cy (by simp)))
                  have O2 := Lib.hid (O.out.grown G2.out)
                  clear O G2 RA
                  cases htx : txOk co x with
                  | false =>
                    have EE := Lib.hid (HB5.out.trans (all_bad HX.out (by unfold thOk; rw [all_bad HY.out htx]; simp)))
                    go_wp2
                    go_ret
                    exact ⟨by rw [EE.out]; rfl, by first | exact O2.out.grow | exact gb_drewN O2.out.grow _ | exact gb_drew O2.out.grow⟩
                  | true =>
                    have T2 := Lib.hid (show (t.take (m + 1)).all (txOk co) = true by rw [all_succ HY.out, T1.out, htx]; rfl)
                    go_wp2
                    go_roundw
                    case rel => exact ⟨m + 1, by omega, by go_num, T2, by first | exact O2 | exact O2.out.drewN _ | exact O2.out.drew⟩
                    case measure => simp [intOf]; omega
                · obtain rfl : m = t.length := by omega
                  have T2 := Lib.hid (show (A.take (k + 1)).all (thOk co) = true by
                    rw [all_succ HX.out, T.out]
                    have := T1.out
                    rw [List.take_length] at this
                    unfold thOk
                    rw [this]
                    simp
                    omega)
                  go_wp2
                  go_roundw
                  case rel => exact ⟨k + 1, by omega, by go_num, T2, O⟩
                  case measure => simp [intOf]; omega
            · obtain rfl : k = A.length := by omega
              have EE := Lib.hid (show bb = true by rw [HB5.out]; have := T.out; rwa [List.take_length] at this)
              go_wp2; go_ret; exact ⟨by rw [EE.out]; rfl, O.out.grow⟩
end Go.Proofs.Ytinmhefkmjlelaa.sc

/- The document's own answer for package script: quarrelref20.Put. -/
namespace Go.Proofs.Ytinmhefkmjlelaa.sc
open Go Go.RowKit Go.Proofs.Ytinmhefkmjlelaa.base Go.Proofs.Ytinmhefkmjlelaa.lg Go.Proofs.Ytinmhefkmjlelaa.md Go.Proofs.Ytinmhefkmjlelaa.fl
set_option linter.unusedVariables false
set_option linter.unusedSimpArgs false
set_option maxRecDepth 100000

set_option maxHeartbeats 8000000 in
theorem refput_lit (co ct cr ck cm cw : Int) (f d p : List Int) (A : List (List (List Op3))) (fa : Option Addr) (fc : Nat) (da : Option Addr) (dc : Nat) (aa : Option Addr) (ac : Nat) (pa : Option Addr) (pc : Nat) (w : World) (hs : ScrAt w ⟨⟨co, ct, cr, ck, cm, cw⟩, f, d, A, p⟩ (.slice fa f.length fc) (.slice da d.length dc) (.slice aa A.length ac) (.slice pa p.length pc)) (hok : Scr.ok ⟨⟨co, ct, cr, ck, cm, cw⟩, f, d, A, p⟩ = true) (h3 : p.length ≤ 100000) : Calls Try.prog 18 #[.agg #[.int .i64 co, .int .i64 ct, .int .i64 cr, .int .i64 ck, .int .i64 cm, .int .i64 cw, .slice fa f.length fc, .slice da d.length dc, .slice aa A.length ac, .slice pa p.length pc]] w fun r w' => ∃ b m c, r = .returned (.slice b m c) ∧ Hid (w.grownBy w' none) ∧ Hid (w'.ownsRow w.heap.size 5 1 (.slice b m c) m (numsC .u8 (putS ⟨⟨co, ct, cr, ck, cm, cw⟩, f, d, A, p⟩))) := by
  obtain ⟨⟨a', c', e, f1⟩, ⟨a4, c4, e4, d1⟩, ⟨a'', c'', e2, a1⟩, ⟨a''', c''', e3, p1⟩⟩ := hs
  cases e
  cases e2
  cases e3
  cases e4
  dsimp only at *
  have F1 := Lib.hid f1
  have D1 := Lib.hid d1
  have A1 := Lib.hid a1
  have P1 := Lib.hid p1
  clear f1 d1 a1 p1
  have hok' := hok
  unfold Scr.ok at hok'
  simp only [Bool.and_eq_true, decide_eq_true_eq, List.all_eq_true] at hok'
  obtain ⟨⟨⟨⟨⟨⟨⟨⟨q1, q2⟩, q3⟩, q4⟩, q5⟩, q6⟩, q7⟩, q8⟩, q9⟩ := hok'
  obtain ⟨⟨z1, z2⟩, ⟨z3, z4⟩, ⟨z5, z6⟩, ⟨z7, z8⟩, ⟨z9, z10⟩, z11, z12⟩ := Cfg.ok_iff.1 q1
  have Q4 := Lib.hid q4
  have Q6 := Lib.hid q6
  have Q8 := Lib.hid q8
  have Q9 := Lib.hid q9
  dsimp only at z1 z2 z3 z4 z5 z6 z7 z8 z9 z10 z11 z12 q2 q5
  have hf8 : f.length ≤ 8 := by omega
  have hA6 : A.length ≤ 6 := by omega
  have hco := Lib.hid z2
  clear hok q1 q2 q3 q4 q5 q6 q8 q9
  have O1 : Hid (Own w (((w.alloc (.cells #[.int .i64 co, .int .i64 ct, .int .i64 cr, .int .i64 ck, .int .i64 cm, .int .i64 cw, .slice fa f.length fc, .slice da d.length dc, .slice aa A.length ac, .slice pa p.length pc] 34)).alloc (.cells #[.int .i64 co, .int .i64 ct, .int .i64 cr, .int .i64 ck, .int .i64 cm, .int .i64 cw] 25)).alloc (.cells #[.int .u8 co, .int .u8 ct, .int .u8 (cr / 256), .int .u8 (cr % 256), .int .u8 ck, .int .u8 cm, .int .u8 cw] 5)) [(w.heap.size, 34, [.int .i64 co, .int .i64 ct, .int .i64 cr, .int .i64 ck, .int .i64 cm, .int .i64 cw, .slice fa f.length fc, .slice da d.length dc, .slice aa A.length ac, .slice pa p.length pc])]) := (((Own.start w).alloc 34 [.int .i64 co, .int .i64 ct, .int .i64 cr, .int .i64 ck, .int .i64 cm, .int .i64 cw, .slice fa f.length fc, .slice da d.length dc, .slice aa A.length ac, .slice pa p.length pc]).skip _).skip _
  have U1 : Hid ((((w.alloc (.cells #[.int .i64 co, .int .i64 ct, .int .i64 cr, .int .i64 ck, .int .i64 cm, .int .i64 cw, .slice fa f.length fc, .slice da d.length dc, .slice aa A.length ac, .slice pa p.length pc] 34)).alloc (.cells #[.int .i64 co, .int .i64 ct, .int .i64 cr, .int .i64 ck, .int .i64 cm, .int .i64 cw] 25)).alloc (.cells #[.int .u8 co, .int .u8 ct, .int .u8 (cr / 256), .int .u8 (cr % 256), .int .u8 ck, .int .u8 cm, .int .u8 cw] 5)).ownsRow w.heap.size 5 1 (.slice (some ⟨w.heap.size + 2, 0, none⟩) 7 7) 7 (numsC .u8 (cfB ⟨co, ct, cr, ck, cm, cw⟩))) := by
    have h := World.ownsRow_lit (base := w.heap.size) (e := 5) (size := 1) ((w.alloc (.cells #[.int .i64 co, .int .i64 ct, .int .i64 cr, .int .i64 ck, .int .i64 cm, .int .i64 cw, .slice fa f.length fc, .slice da d.length dc, .slice aa A.length ac, .slice pa p.length pc] 34)).alloc (.cells #[.int .i64 co, .int .i64 ct, .int .i64 cr, .int .i64 ck, .int .i64 cm, .int .i64 cw] 25)) #[.int .u8 co, .int .u8 ct, .int .u8 (cr / 256), .int .u8 (cr % 256), .int .u8 ck, .int .u8 cm, .int .u8 cw] 7 (by simp only [size_alloc]; omega) (by decide) rfl
    simp only [size_alloc] at h
    exact h
  go_enter Try.func18, Try.ntmps18
  go_wp2_with fail
  generalize ((w.alloc _).alloc _).alloc _ = v at *
  generalize w.heap.size + 2 = hb at *
  obtain ⟨sb, hsb⟩ : ∃ sb, sb = w.heap.size := ⟨_, rfl⟩
  rw [← hsb] at O1 ⊢
  have HSB := Lib.hid hsb
  clear hsb z1 z2 z3 z4 z5 z6 z7 z8 z9 z10 z11 z12
  obtain ⟨OL, hOL⟩ : ∃ OL : List (Nat × TypeId × List Value), OL = [(sb, 34, [.int .i64 co, .int .i64 ct, .int .i64 cr, .int .i64 ck, .int .i64 cm, .int .i64 cw, .slice fa f.length fc, .slice da d.length dc, .slice aa A.length ac, .slice pa p.length pc])] := ⟨_, rfl⟩
  rw [← hOL] at O1
  have HOL := Lib.hid hOL
  clear hOL
  obtain ⟨P0, hP0⟩ : ∃ P0, P0 = cfB ⟨co, ct, cr, ck, cm, cw⟩ := ⟨_, rfl⟩
  rw [← hP0] at U1
  have HP0 := Lib.hid hP0
  clear hP0
  go_loopw [4, 5] (fun bv iv wr => ∃ (k m : Nat) (b' : Option Addr) (c' : Nat), k ≤ f.length ∧ iv = .int .i64 k ∧ bv = .slice b' m c' ∧ m ≤ 7 + k ∧ Hid (wr.ownsRow w.heap.size 5 1 (.slice b' m c') m (numsC .u8 (P0 ++ ((f.take k).flatMap fun x => [low x])))) ∧ Hid (Own w wr OL)) (fun _ iv _ => (f.length - intOf iv).toNat)
  case atStart => exact ⟨0, 7, _, _, by omega, rfl, rfl, by omega, by rw [List.take_zero, List.flatMap_nil, List.append_nil]; exact U1, O1⟩
  case round =>
    clear U1 O1
    obtain ⟨k, m, b', c', hk, rfl, rfl, hm, U, O⟩ := hrel
    have hsz := Lib.hid O.out.grow.size
    have O' := Lib.hid (HOL.out ▸ O.out); have d0 := O'.out.cell 0 0 rfl rfl; have d1 := O'.out.cell 0 1 rfl rfl; have d2 := O'.out.cell 0 2 rfl rfl; have d3 := O'.out.cell 0 3 rfl rfl; have d4 := O'.out.cell 0 4 rfl rfl; have d5 := O'.out.cell 0 5 rfl rfl; have d6 := O'.out.cell 0 6 rfl rfl; have d7 := O'.out.cell 0 7 rfl rfl; have d8 := O'.out.cell 0 8 rfl rfl; have d9 := O'.out.cell 0 9 rfl rfl; clear O'
    by_cases hlt : k < f.length
    · have hltI : (k : Int) < (f.length : Int) := by omega
      obtain ⟨b1, off, rfl, hb1, cx⟩ := (F1.out.grown O.out.grow).at1 hlt
      have hx := at0_get hlt
      have hlx := Q4.out _ (List.mem_of_getElem? hx)
      have HF := Lib.hid (flat_succ (fun x => [low x]) hx)
      generalize at0 f k = x at *
      have LX := Lib.hid (fun u => low_any x hlx u)
      clear hx hlx
      go_wp2_with fail
      refine (LX.out wr).mono ?_
      rintro r u ⟨rfl, hu⟩
      rw [hu]
      clear hu
      clear cx LX
      clear d0 d1 d2 d3 d4 d5 d6 d7 d8 d9
      go_wp2_with (at_builtin; go_loud (refine appendU8 _ rfl (.tmp 45) (.tmp 52) rfl w.heap.size _ m _ rfl (ownsRow_keep U.out (fun b e => Below.heap_alloc _ _ b (U.out.lt b e).2)) (some ⟨wr.heap.size, 0, none⟩) 1 1 [.int .u8 (low x)] rfl rfl (new_src _ _ _ _ rfl) (by intro u hu; simp at hu; subst hu; rfl) (by omega) (by have := hsz.out; simp; omega) ?_); intro b4 c4 w4 ho hg hv; have O4 := Lib.hid (Own.keepT O.out (KeepT.push U.out hg) (by intro y hy; have hy2 := HOL.out ▸ hy; simp at hy2; subst hy2; show (34 : TypeId) ≠ 5; decide) (gb_overO (gb_alloc O.out.grow _) hg (fun i hi => (U.out.lt i hi).1))); have U4 := Lib.hid ho; clear ho hg hv)
      have U5 : Hid (w4.ownsRow w.heap.size 5 1 (.slice b4 (m + 1) c4) (m + 1) (numsC .u8 (P0 ++ ((f.take (k + 1)).flatMap fun x => [low x])))) := by
        rw [HF.out, ← List.append_assoc, numsC_append]
        exact U4
      clear U4 U O
      go_wp2
      go_roundw
      case rel => exact ⟨k + 1, m + 1, b4, c4, by omega, by go_num, rfl, by omega, U5, O4⟩
      case measure => simp [intOf]; omega
    · obtain rfl : k = f.length := by omega
      rw [List.take_length] at U
      obtain ⟨P1', hP1⟩ : ∃ P1', P1' = P0 ++ (f.flatMap fun x => [low x]) := ⟨_, rfl⟩
      rw [← hP1] at U
      have HP1 := Lib.hid hP1
      have hm15 : m ≤ 15 := by omega
      clear hP1 hk hlt hm F1 Q4
      go_wp2_with fail
      clear hsz
      clear d0 d1 d2 d3 d4 d5 d6 d7 d8 d9
      go_loopw [4, 6] (fun bv iv wr => ∃ (k m : Nat) (b' : Option Addr) (c' : Nat), k ≤ A.length ∧ iv = .int .i64 k ∧ bv = .slice b' m c' ∧ m ≤ 15 + 160 * k ∧ Hid (wr.ownsRow w.heap.size 5 1 (.slice b' m c') m (numsC .u8 (P1' ++ (A.take k).flatMap thB))) ∧ Hid (Own w wr OL)) (fun _ iv _ => (A.length - intOf iv).toNat)
      case atStart => exact ⟨0, m, b', c', by omega, rfl, rfl, by omega, by rw [List.take_zero, List.flatMap_nil, List.append_nil]; exact U, O⟩
      case round =>
        clear U O hm15
        obtain ⟨k, m, b', c', hk, rfl, rfl, hm, U, O⟩ := hrel
        have hsz := Lib.hid O.out.grow.size
        have O' := Lib.hid (HOL.out ▸ O.out); have d0 := O'.out.cell 0 0 rfl rfl; have d1 := O'.out.cell 0 1 rfl rfl; have d2 := O'.out.cell 0 2 rfl rfl; have d3 := O'.out.cell 0 3 rfl rfl; have d4 := O'.out.cell 0 4 rfl rfl; have d5 := O'.out.cell 0 5 rfl rfl; have d6 := O'.out.cell 0 6 rfl rfl; have d7 := O'.out.cell 0 7 rfl rfl; have d8 := O'.out.cell 0 8 rfl rfl; have d9 := O'.out.cell 0 9 rfl rfl; clear O'
        by_cases hlt : k < A.length
        · have hltI : (k : Int) < (A.length : Int) := by omega
          obtain ⟨t, ht⟩ : ∃ t, A[k]? = some t := ⟨_, List.getElem?_eq_getElem hlt⟩
          have HF := Lib.hid (flat_succ thB ht)
          have hto := Q6.out t (List.mem_of_getElem? ht)
          unfold thOk at hto
          simp only [Bool.and_eq_true, decide_eq_true_eq, List.all_eq_true] at hto
          obtain ⟨ht6, hta⟩ := hto
          have HTA := Lib.hid hta
          obtain ⟨b1, off, v1, rfl, hb1, cx, a2, c2, rfl, T2⟩ := A1.out.at ht
          have CX0 := Lib.hid cx
          have cx := O.out.grow.cell cx (by simp)
          have Y := Lib.hid T2
          have htb : IntKind.u8.wrap (t.length : Int) = (t.length : Int) := IntWalk.u8_in _ (by omega)
          have htm : (t.length : Int) % 256 = (t.length : Int) := by omega
          clear ht hta T2
          go_wp2_with (at_builtin; go_loud (refine appendU8 _ rfl (.tmp 61) (.tmp 69) rfl w.heap.size _ m _ rfl (ownsRow_keep U.out (fun b e => Below.heap_alloc _ _ b (U.out.lt b e).2)) (some ⟨wr.heap.size, 0, none⟩) 1 1 [.int .u8 ((t.length : Int))] rfl rfl (new_src _ _ _ _ rfl) (by intro u hu; simp at hu; subst hu; rfl) (by omega) (by have := hsz.out; simp; omega) ?_); intro b4 c4 w4 ho hg hv; have O4 := Lib.hid (Own.keepT O.out (KeepT.push U.out hg) (by intro y hy; have hy2 := HOL.out ▸ hy; simp at hy2; subst hy2; show (34 : TypeId) ≠ 5; decide) (gb_overO (gb_alloc O.out.grow _) hg (fun i hi => (U.out.lt i hi).1))); have U4 := Lib.hid ho; clear ho hg hv)
          rw [← numsC_snoc, List.append_assoc] at U4
          obtain ⟨P2, hP2⟩ : ∃ P2, P2 = P1' ++ ((A.take k).flatMap thB ++ [(t.length : Int)]) := ⟨_, rfl⟩
          rw [← hP2] at U4
          have HP2 := Lib.hid hP2
          obtain ⟨m2, hm2⟩ : ∃ m2, m2 = m + 1 := ⟨_, rfl⟩
          rw [← hm2] at U4 ⊢
          have hm2' : m2 ≤ 16 + 160 * k := by omega
          clear hP2 U O hsz cx htb htm hm2 hm
          clear d0 d1 d2 d3 d4 d5 d6 d7 d8 d9
          go_wp2_with fail
          go_loopw [4, 7] (fun bv iv wr => ∃ (j m : Nat) (b' : Option Addr) (c' : Nat), j ≤ t.length ∧ iv = .int .i64 j ∧ bv = .slice b' m c' ∧ m ≤ 16 + 160 * k + 25 * j ∧ Hid (wr.ownsRow w.heap.size 5 1 (.slice b' m c') m (numsC .u8 (P2 ++ (t.take j).flatMap txB))) ∧ Hid (Own w wr OL)) (fun _ iv _ => (t.length - intOf iv).toNat)
          case atStart => exact ⟨0, m2, b4, c4, by omega, rfl, rfl, by omega, by rw [List.take_zero, List.flatMap_nil, List.append_nil]; exact U4, O4⟩
          case round =>
            clear U4 O4 hm2'
            obtain ⟨j, m, b', c', hj, rfl, rfl, hm, U, O⟩ := hrel
            have hsz := Lib.hid O.out.grow.size
            have O' := Lib.hid (HOL.out ▸ O.out); have d0 := O'.out.cell 0 0 rfl rfl; have d1 := O'.out.cell 0 1 rfl rfl; have d2 := O'.out.cell 0 2 rfl rfl; have d3 := O'.out.cell 0 3 rfl rfl; have d4 := O'.out.cell 0 4 rfl rfl; have d5 := O'.out.cell 0 5 rfl rfl; have d6 := O'.out.cell 0 6 rfl rfl; have d7 := O'.out.cell 0 7 rfl rfl; have d8 := O'.out.cell 0 8 rfl rfl; have d9 := O'.out.cell 0 9 rfl rfl; clear O'
            have cx := O.out.grow.cell CX0.out (by simp)
            by_cases hjt : j < t.length
            · have hjtI : (j : Int) < (t.length : Int) := by omega
              obtain ⟨x, hx⟩ : ∃ x, t[j]? = some x := ⟨_, List.getElem?_eq_getElem hjt⟩
              have HF2 := Lib.hid (flat_succ txB hx)
              have hxo := HTA.out x (List.mem_of_getElem? hx)
              unfold txOk at hxo
              simp only [Bool.and_eq_true, decide_eq_true_eq, List.all_eq_true] at hxo
              obtain ⟨⟨hx1, hx2⟩, hx3⟩ := hxo
              have HX3 := Lib.hid hx3
              obtain ⟨b2, off2, v2, rfl, hb2, cy, a3, c3, rfl, Z2⟩ := Y.out.at hx
              have cy := O.out.grow.cell cy (by simp)
              have W := Lib.hid Z2
              have htb : IntKind.u8.wrap (x.length : Int) = (x.length : Int) := IntWalk.u8_in _ (by omega)
              have htm : (x.length : Int) % 256 = (x.length : Int) := by omega
              clear hx hx3 Z2
              go_wp2_with (at_builtin; go_loud (refine appendU8 _ rfl (.tmp 89) (.tmp 93) rfl w.heap.size _ m _ rfl (ownsRow_keep U.out (fun b e => Below.heap_alloc _ _ b (U.out.lt b e).2)) (some ⟨wr.heap.size, 0, none⟩) 1 1 [.int .u8 ((x.length : Int))] rfl rfl (new_src _ _ _ _ rfl) (by intro u hu; simp at hu; subst hu; rfl) (by omega) (by have := hsz.out; simp; omega) ?_); intro b4 c4 w4 ho hg hv; have O4 := Lib.hid (Own.keepT O.out (KeepT.push U.out hg) (by intro y hy; have hy2 := HOL.out ▸ hy; simp at hy2; subst hy2; show (34 : TypeId) ≠ 5; decide) (gb_overO (gb_alloc O.out.grow _) hg (fun i hi => (U.out.lt i hi).1))); have U4 := Lib.hid ho; clear ho hg hv)
              rw [← numsC_snoc, List.append_assoc] at U4
              obtain ⟨P3, hP3⟩ : ∃ P3, P3 = P2 ++ ((t.take j).flatMap txB ++ [(x.length : Int)]) := ⟨_, rfl⟩
              rw [← hP3] at U4
              have HP3 := Lib.hid hP3
              obtain ⟨m3, hm3⟩ : ∃ m3, m3 = m + 1 := ⟨_, rfl⟩
              rw [← hm3] at U4 ⊢
              have hm3' : m3 ≤ 17 + 160 * k + 25 * j := by omega
              clear hP3 U O hsz cx cy htb htm hm3 hm
              clear d0 d1 d2 d3 d4 d5 d6 d7 d8 d9
              go_wp2_with fail
              go_loopw [4, 9] (fun bv iv wr => ∃ (l m : Nat) (b' : Option Addr) (c' : Nat), l ≤ x.length ∧ iv = .int .i64 l ∧ bv = .slice b' m c' ∧ m ≤ 17 + 160 * k + 25 * j + 3 * l ∧ Hid (wr.ownsRow w.heap.size 5 1 (.slice b' m c') m (numsC .u8 (P3 ++ (x.take l).flatMap opB))) ∧ Hid (Own w wr OL)) (fun _ iv _ => (x.length - intOf iv).toNat)
              case atStart => exact ⟨0, m3, b4, c4, by omega, rfl, rfl, by omega, by rw [List.take_zero, List.flatMap_nil, List.append_nil]; exact U4, O4⟩
              case round =>
                clear U4 O4 hm3'
                obtain ⟨l, m, b', c', hl, rfl, rfl, hm, U, O⟩ := hrel
                have hsz := Lib.hid O.out.grow.size
                by_cases hlx : l < x.length
                · have hlxI : (l : Int) < (x.length : Int) := by omega
                  obtain ⟨o, ho⟩ : ∃ o, x[l]? = some o := ⟨_, List.getElem?_eq_getElem hlx⟩
                  have HF3 := Lib.hid (flat_succ opB ho)
                  have hoo := HX3.out o (List.mem_of_getElem? ho)
                  unfold Op3.ok at hoo
                  obtain ⟨⟨g1, g2⟩, ⟨g3, g4⟩, ga⟩ := okB_small hoo (by have := hco.out; omega)
                  obtain ⟨e1, e2, e3⟩ := opZ_at ho
                  obtain ⟨b3, off3, rfl, hb3, y0, y1, y2⟩ := (W.out.grown O.out.grow).at3 hlx
                  rw [e1] at y0
                  rw [e2] at y1
                  rw [e3] at y2
                  obtain ⟨kk, oo, oa⟩ := o
                  dsimp only at y0 y1 y2 g1 g2 g3 g4 ga
                  have LX := Lib.hid (fun u => low_any oa ga u)
                  have k1 : IntKind.u8.wrap kk = kk := IntWalk.u8_in _ (by omega)
                  have k2 : IntKind.u8.wrap oo = oo := IntWalk.u8_in _ (by omega)
                  have k3 : kk % 256 = kk := by omega
                  have k4 : oo % 256 = oo := by omega
                  clear hoo e1 e2 e3 ga ho
                  go_wp2_with fail
                  go_region_law (first | (refine step_call rfl 36 #[.int .i64 oa] (by simp [Act.eval, go_sem]) (LX.out wr.drew) ?_; rintro r u3 ⟨rfl, rfl⟩; refine ⟨_, rfl, ?_⟩) | (refine stepU8 rfl (.tmp 101) (.tmp 120) rfl w.heap.size _ m _ (by simp [Act.eval]) (ownsRow_keep (w' := wr.drew.alloc (.cells #[.int .u8 kk, .int .u8 oo, .int .u8 (low oa)] 5)) U.out (fun b e => Below.heap_alloc wr.drew _ b (U.out.lt b e).2)) (some ⟨wr.heap.size, 0, none⟩) 3 3 [.int .u8 kk, .int .u8 oo, .int .u8 (low oa)] (by simp [Act.eval]) rfl (new_src wr.drew _ _ _ rfl) (by intro u hu; simp at hu; rcases hu with rfl | rfl | rfl <;> rfl) (by omega) (by have := hsz.out; simp; omega) ?_; intro b6 c6 w6 ho hg hv; have U6 := Lib.hid ho; have H6 := Lib.hid hg; clear ho hg hv))
                  all_goals
                    have G6 := Lib.hid (show World.grownBy w w6 none from gb_overO (gb_alloc (gb_drew O.out.grow) (.cells #[.int .u8 kk, .int .u8 oo, .int .u8 (low oa)] 5)) H6.out (fun i hi => (U.out.lt i hi).1))
                    have K6 := Lib.hid (show KeepT (fun t => t ≠ 5) wr w6 from KeepT.trans (KeepT.grown (gb_alloc (gb_drew (gb_refl wr none)) (.cells #[.int .u8 kk, .int .u8 oo, .int .u8 (low oa)] 5))) (KeepT.row (ownsRow_keep (w' := wr.drew.alloc (.cells #[.int .u8 kk, .int .u8 oo, .int .u8 (low oa)] 5)) U.out (fun b e => Below.heap_alloc wr.drew _ b (U.out.lt b e).2)) H6.out))
                    have O6 := Lib.hid (Own.keepT O.out K6.out (by intro y hy; have hy2 := HOL.out ▸ hy; simp at hy2; subst hy2; show (34 : TypeId) ≠ 5; decide) G6.out)
                    have U7 := Lib.hid (show w6.ownsRow w.heap.size 5 1 (.slice b6 (m + 3) c6) (m + 3) (numsC .u8 (P3 ++ (x.take (l + 1)).flatMap opB)) by
                      have h := U6.out
                      rw [HF3.out, ← List.append_assoc, numsC_append]
                      exact h)
                    clear G6 K6 U6 H6 O U y0 y1 y2
                    try go_wp2
                    go_roundw
                    case rel => exact ⟨l + 1, m + 3, b6, c6, by omega, by go_num, rfl, by omega, U7, O6⟩
                    case measure => simp [intOf]; omega
                · obtain rfl : l = x.length := by omega
                  have U5 := Lib.hid (show wr.ownsRow w.heap.size 5 1 (.slice b' m c') m (numsC .u8 (P2 ++ (t.take (j + 1)).flatMap txB)) by
                    have := U.out
                    rw [List.take_length, HP3.out] at this
                    rw [HF2.out]
                    simpa [txB] using this)
                  clear U
                  go_wp2
                  go_roundw
                  case rel => exact ⟨j + 1, m, b', c', by omega, by go_num, rfl, by omega, U5, O⟩
                  case measure => simp [intOf]; omega
            · obtain rfl : j = t.length := by omega
              have U5 := Lib.hid (show wr.ownsRow w.heap.size 5 1 (.slice b' m c') m (numsC .u8 (P1' ++ (A.take (k + 1)).flatMap thB)) by
                have := U.out
                rw [List.take_length, HP2.out] at this
                rw [HF.out]
                simpa [thB] using this)
              clear U
              go_wp2
              go_roundw
              case rel => exact ⟨k + 1, m, b', c', by omega, by go_num, rfl, by omega, U5, O⟩
              case measure => simp [intOf]; omega
        · obtain rfl : k = A.length := by omega
          rw [List.take_length] at U
          have hm9 : m ≤ 1000 := by omega
          have hdb : IntKind.u8.wrap (d.length : Int) = (d.length : Int) := IntWalk.u8_in _ (by omega)
          have hdm : (d.length : Int) % 256 = (d.length : Int) := by omega
          clear hm hk hlt A1 Q6
          go_wp2_with (at_builtin; go_loud (refine appendU8 _ rfl (.tmp 122) (.tmp 127) rfl w.heap.size _ m _ rfl (ownsRow_keep U.out (fun b e => Below.heap_alloc _ _ b (U.out.lt b e).2)) (some ⟨wr.heap.size, 0, none⟩) 1 1 [.int .u8 ((d.length : Int))] rfl rfl (new_src _ _ _ _ rfl) (by intro u hu; simp at hu; subst hu; rfl) (by omega) (by have := hsz.out; simp; omega) ?_); intro b4 c4 w4 ho hg hv; have O4 := Lib.hid (Own.keepT O.out (KeepT.push U.out hg) (by intro y hy; have hy2 := HOL.out ▸ hy; simp at hy2; subst hy2; show (34 : TypeId) ≠ 5; decide) (gb_overO (gb_alloc O.out.grow _) hg (fun i hi => (U.out.lt i hi).1))); have U4 := Lib.hid ho; clear ho hg hv)
          rw [← numsC_snoc, List.append_assoc] at U4
          obtain ⟨P4, hP4⟩ : ∃ P4, P4 = P1' ++ (A.flatMap thB ++ [(d.length : Int)]) := ⟨_, rfl⟩
          rw [← hP4] at U4
          have HP4 := Lib.hid hP4
          obtain ⟨m4, hm4⟩ : ∃ m4, m4 = m + 1 := ⟨_, rfl⟩
          rw [← hm4] at U4 ⊢
          have hm4' : m4 ≤ 1001 := by omega
          clear hP4 U O hsz hdb hdm hm4 hm9
          clear d0 d1 d2 d3 d4 d5 d6 d7 d8 d9
          go_wp2_with fail
          go_loopw [4, 10] (fun bv iv wr => ∃ (k m : Nat) (b' : Option Addr) (c' : Nat), k ≤ d.length ∧ iv = .int .i64 k ∧ bv = .slice b' m c' ∧ m ≤ 1001 + k ∧ Hid (wr.ownsRow w.heap.size 5 1 (.slice b' m c') m (numsC .u8 (P4 ++ d.take k))) ∧ Hid (Own w wr OL)) (fun _ iv _ => (d.length - intOf iv).toNat)
          case atStart => exact ⟨0, m4, b4, c4, by omega, rfl, rfl, by omega, by rw [List.take_zero, List.append_nil]; exact U4, O4⟩
          case round =>
            clear U4 O4 hm4'
            obtain ⟨k, m, b', c', hk, rfl, rfl, hm, U, O⟩ := hrel
            have hsz := Lib.hid O.out.grow.size
            have O' := Lib.hid (HOL.out ▸ O.out); have d0 := O'.out.cell 0 0 rfl rfl; have d1 := O'.out.cell 0 1 rfl rfl; have d2 := O'.out.cell 0 2 rfl rfl; have d3 := O'.out.cell 0 3 rfl rfl; have d4 := O'.out.cell 0 4 rfl rfl; have d5 := O'.out.cell 0 5 rfl rfl; have d6 := O'.out.cell 0 6 rfl rfl; have d7 := O'.out.cell 0 7 rfl rfl; have d8 := O'.out.cell 0 8 rfl rfl; have d9 := O'.out.cell 0 9 rfl rfl; clear O'
            by_cases hlt : k < d.length
            · have hltI : (k : Int) < (d.length : Int) := by omega
              obtain ⟨b1, off, rfl, hb1, cx⟩ := (D1.out.grown O.out.grow).at1 hlt
              have hx := at0_get hlt
              have HF := Lib.hid (show d.take (k + 1) = d.take k ++ [at0 d k] by rw [List.take_add_one, hx]; rfl)
              generalize at0 d k = x at *
              clear hx
              go_wp2_with (at_builtin; go_loud (refine appendU8 _ rfl (.tmp 136) (.tmp 142) rfl w.heap.size _ m _ rfl (ownsRow_keep U.out (fun b e => Below.heap_alloc _ _ b (U.out.lt b e).2)) (some ⟨wr.heap.size, 0, none⟩) 1 1 [.int .u8 (x)] rfl rfl (new_src _ _ _ _ rfl) (by intro u hu; simp at hu; subst hu; rfl) (by omega) (by have := hsz.out; simp; omega) ?_); intro b4 c4 w4 ho hg hv; have O4 := Lib.hid (Own.keepT O.out (KeepT.push U.out hg) (by intro y hy; have hy2 := HOL.out ▸ hy; simp at hy2; subst hy2; show (34 : TypeId) ≠ 5; decide) (gb_overO (gb_alloc O.out.grow _) hg (fun i hi => (U.out.lt i hi).1))); have U4 := Lib.hid ho; clear ho hg hv)
              have U5 : Hid (w4.ownsRow w.heap.size 5 1 (.slice b4 (m + 1) c4) (m + 1) (numsC .u8 (P4 ++ d.take (k + 1)))) := by
                rw [HF.out, ← List.append_assoc, numsC_append]
                exact U4
              clear U4 U O cx
              clear d0 d1 d2 d3 d4 d5 d6 d7 d8 d9
              go_wp2
              go_roundw
              case rel => exact ⟨k + 1, m + 1, b4, c4, by omega, by go_num, rfl, by omega, U5, O4⟩
              case measure => simp [intOf]; omega
            · obtain rfl : k = d.length := by omega
              rw [List.take_length] at U
              obtain ⟨P5, hP5⟩ : ∃ P5, P5 = P4 ++ d := ⟨_, rfl⟩
              rw [← hP5] at U
              have HP5 := Lib.hid hP5
              have hm5 : m ≤ 1300 := by omega
              clear hP5 hk hlt hm D1 Q8
              go_wp2_with fail
              clear hsz
              clear d0 d1 d2 d3 d4 d5 d6 d7 d8 d9
              go_loopw [4, 11] (fun bv iv wr => ∃ (k m : Nat) (b' : Option Addr) (c' : Nat), k ≤ p.length ∧ iv = .int .i64 k ∧ bv = .slice b' m c' ∧ m ≤ 1300 + k ∧ Hid (wr.ownsRow w.heap.size 5 1 (.slice b' m c') m (numsC .u8 (P5 ++ p.take k))) ∧ Hid (Own w wr OL)) (fun _ iv _ => (p.length - intOf iv).toNat)
              case atStart => exact ⟨0, m, b', c', by omega, rfl, rfl, by omega, by rw [List.take_zero, List.append_nil]; exact U, O⟩
              case round =>
                clear U O hm5
                obtain ⟨k, m, b', c', hk, rfl, rfl, hm, U, O⟩ := hrel
                have hsz := Lib.hid O.out.grow.size
                have O' := Lib.hid (HOL.out ▸ O.out); have d0 := O'.out.cell 0 0 rfl rfl; have d1 := O'.out.cell 0 1 rfl rfl; have d2 := O'.out.cell 0 2 rfl rfl; have d3 := O'.out.cell 0 3 rfl rfl; have d4 := O'.out.cell 0 4 rfl rfl; have d5 := O'.out.cell 0 5 rfl rfl; have d6 := O'.out.cell 0 6 rfl rfl; have d7 := O'.out.cell 0 7 rfl rfl; have d8 := O'.out.cell 0 8 rfl rfl; have d9 := O'.out.cell 0 9 rfl rfl; clear O'
                by_cases hlt : k < p.length
                · have hltI : (k : Int) < (p.length : Int) := by omega
                  obtain ⟨b1, off, rfl, hb1, cx⟩ := (P1.out.grown O.out.grow).at1 hlt
                  have hx := at0_get hlt
                  obtain ⟨x1, x2⟩ := Q9.out _ (List.mem_of_getElem? hx)
                  have HF := Lib.hid (show p.take (k + 1) = p.take k ++ [at0 p k] by rw [List.take_add_one, hx]; rfl)
                  generalize at0 p k = x at *
                  have k1 : IntKind.u8.wrap x = x := IntWalk.u8_in _ (by omega)
                  have k2 : x % 256 = x := by omega
                  clear hx
                  go_wp2_with (at_builtin; go_loud (refine appendU8 _ rfl (.tmp 151) (.tmp 158) rfl w.heap.size _ m _ rfl (ownsRow_keep U.out (fun b e => Below.heap_alloc _ _ b (U.out.lt b e).2)) (some ⟨wr.heap.size, 0, none⟩) 1 1 [.int .u8 (x)] rfl rfl (new_src _ _ _ _ rfl) (by intro u hu; simp at hu; subst hu; rfl) (by omega) (by have := hsz.out; simp; omega) ?_); intro b4 c4 w4 ho hg hv; have O4 := Lib.hid (Own.keepT O.out (KeepT.push U.out hg) (by intro y hy; have hy2 := HOL.out ▸ hy; simp at hy2; subst hy2; show (34 : TypeId) ≠ 5; decide) (gb_overO (gb_alloc O.out.grow _) hg (fun i hi => (U.out.lt i hi).1))); have U4 := Lib.hid ho; clear ho hg hv)
                  have U5 : Hid (w4.ownsRow w.heap.size 5 1 (.slice b4 (m + 1) c4) (m + 1) (numsC .u8 (P5 ++ p.take (k + 1)))) := by
                    rw [HF.out, ← List.append_assoc, numsC_append]
                    exact U4
                  clear U4 U O cx k1 k2
                  clear d0 d1 d2 d3 d4 d5 d6 d7 d8 d9
                  go_wp2
                  go_roundw
                  case rel => exact ⟨k + 1, m + 1, b4, c4, by omega, by go_num, rfl, by omega, U5, O4⟩
                  case measure => simp [intOf]; omega
                · obtain rfl : k = p.length := by omega
                  have U5 : Hid (wr.ownsRow w.heap.size 5 1 (.slice b' m c') m (numsC .u8 (putS ⟨⟨co, ct, cr, ck, cm, cw⟩, f, d, A, p⟩))) := by
                    have h := U.out
                    rw [List.take_length] at h
                    rw [head_eq]
                    rw [HP5.out, HP4.out, HP1.out, HP0.out] at h
                    simp only [List.append_assoc] at h ⊢
                    exact h
                  go_wp2
                  go_ret
                  exact ⟨b', m, c', rfl, O.out.grow, U5⟩
end Go.Proofs.Ytinmhefkmjlelaa.sc
