/-
  OpaqueSpoilt: of an opaque trace in which one reading that counts, and isn't own, tells another value, that was there at no state at which its try could have been seen, just that try is the first one that isn't seen; for any first values, any events, any try and any value.
  Conditions: none (of more than 120 events, of more than 20 values, and of what isn't opaque, the law says nothing by itself).
-/
import Derived.Test.YtkidkhjpijjphaaRows
import Derived.Test.YtkidkhjpijjphaaPq
import Derived.Deep.QuietTactic
import Derived.Deep.RegionHeld3
import Derived.BigQuiet
namespace Go.Proofs.Ytkidkhjpijjphaa.opaqueSpoilt
open Go.ChangeShapes Go.WideShapes Go.ChangeAt Go.RowKit Go.Maps Go.Proofs.Ytkidkhjpijjphaa.base Go.Proofs.Ytkidkhjpijjphaa.hs Go.Proofs.Ytkidkhjpijjphaa.lg Go.Proofs.Ytkidkhjpijjphaa.md Go.Proofs.Ytkidkhjpijjphaa.oq
set_option linter.unusedVariables false
set_option maxRecDepth 100000
set_option linter.unusedSimpArgs false

theorem walk_out (a0 : Option Addr) (len0 cap0 : Nat) (a1 : Option Addr) (len1 cap1 : Nat) (a2 a3 : Int) (w : World) (h : 120 < (len1 : Int) ∨ 20 < (len0 : Int)) : Calls Try.prog 5 #[.slice a0 len0 cap0, .slice a1 len1 cap1, .int .u8 a2, .int .i64 a3] w fun e w' => e = .returned (.bool true) ∧ Below w.heap.size w w' := by
  by_cases h1 : 120 < (len1 : Int)
  · go_enter Try.func5, Try.ntmps5; go_wp2_with fail; refine (oq.alive_any _).mono ?_; rintro e v1 ⟨rfl, g1⟩; go_wp2; go_ret; exact ⟨rfl, gb_below g1.out⟩
  have q1 : (len1 : Int) ≤ 120 := by omega
  have h2 : 20 < (len0 : Int) := by omega
  go_enter Try.func5, Try.ntmps5; go_wp2_with fail; refine (oq.alive_any _).mono ?_; rintro e v1 ⟨rfl, g1⟩; go_wp2; go_ret; exact ⟨rfl, gb_below g1.out⟩

theorem walk_wrong (a0 : Option Addr) (len0 cap0 : Nat) (a1 : Option Addr) (len1 cap1 : Nat) (e : Evs) (a2 a3 : Int) (w : World) (h1 : (len1 : Int) ≤ 120) (h0 : (len0 : Int) ≤ 20) (hl : IsEvs w a1 len1 e) (hr : right e len1 = false) : Calls Try.prog 5 #[.slice a0 len0 cap0, .slice a1 len1 cap1, .int .u8 a2, .int .i64 a3] w fun e w' => e = .returned (.bool true) ∧ Below w.heap.size w w' := by
  have HL := Lib.hid hl
  have HR := Lib.hid hr
  clear hl hr
  go_enter Try.func5, Try.ntmps5
  go_wp2_with fail
  refine (oq.alive_any _).mono ?_
  rintro r v1 ⟨rfl, g1⟩
  go_wp2_with fail
  refine (check_wrong a0 len0 cap0 a1 len1 cap1 e _ (HL.out.grown g1.out) HR.out (by omega)).mono ?_
  rintro r v2 ⟨rfl, g2⟩
  go_wp2
  go_ret
  exact ⟨rfl, gb_below (gb_trans g1.out g2.out)⟩

/-- Did the object have that value at a state at which the try could be seen? -/
def P (S : Nat → Nat → Int) (o : Nat) (tv : Int) (co : Bool) (bq k : Nat) : Bool := (S k o == tv) && (!co || decide (k = bq))
theorem hadB_next {Q : Nat → Bool} (k : Nat) : hadB Q (k + 1) = (hadB Q k || Q k) := rfl

set_option maxHeartbeats 8000000 in
theorem walk (a0 : Option Addr) (len0 cap0 : Nat) (z0 : Nat → Int) (a1 : Option Addr) (len1 cap1 : Nat) (z1 : Nat → Nat → Int) (a2 a3 : Int) (w : World) (w0 : IsRow .i64 w a0 len0 cap0 z0) (w1 : IsInts 7 w a1 len1 cap1 z1) (w2 : (Lit.int .u8 a2).wf = true) (w3 : (Lit.int .i64 a3).wf = true) : Calls Try.prog 5 #[.slice a0 len0 cap0, .slice a1 len1 cap1, .int .u8 a2, .int .i64 a3] w fun e w' => e = .returned (.bool true) ∧ Below w.heap.size w w' := by
  by_cases hbig : 120 < (len1 : Int) ∨ 20 < (len0 : Int)
  · exact walk_out a0 len0 cap0 a1 len1 cap1 a2 a3 w hbig
  have l0 : (len0 : Int) ≤ 20 := by omega
  have l1 : (len1 : Int) ≤ 120 := by omega
  have HZ := Lib.hid (IsNums.of_row w0)
  have HZW := Lib.hid (row_wf w0)
  have HE := Lib.hid (isEvs_of w1)
  have hlc : len1 ≤ cap1 := w1.1
  generalize (fun i => (⟨z1 i 0, z1 i 1, z1 i 2, z1 i 3, z1 i 4, z1 i 5, z1 i 6⟩ : Ev)) = e at *
  clear w0 w1 hbig
  cases hr : right e len1 with
  | false => exact walk_wrong a0 len0 cap0 a1 len1 cap1 e a2 a3 w l1 l0 HE.out hr
  | true =>
  have HR := Lib.hid hr
  clear hr
  obtain ⟨hu0, hu1⟩ := bounds_u8 w2
  have HW3 := Lib.hid w3
  clear w2 w3
  have HTN := Lib.hid (tries_n e len1)
  have HEW := Lib.hid (evs_wf HE.out)
  have HAW0 := Lib.hid (acs_wf HEW.out)
  have HLC := Lib.hid hlc
  clear hlc
  obtain ⟨i0, hi0, hz00, hz10, hz20⟩ := info_parts infoEv
  have hi9 := Lib.hid hi0
  have hz0 := Lib.hid hz00
  have hz1 := Lib.hid hz10
  have hz2 := Lib.hid hz20
  clear hi0 hz00 hz10 hz20
  go_enter Try.func5, Try.ntmps5
  go_wp2_with fail
  refine (oq.alive_any _).mono ?_
  rintro r v1 ⟨rfl, g1⟩
  go_wp2_with fail
  refine (check_right a0 len0 cap0 z0 a1 len1 cap1 e _ (HZ.out.grown g1.out) HZW.out (HE.out.grown g1.out) HR.out (by omega) (by omega)).mono ?_
  rintro r v2 ⟨f, hf, g2, ⟨k, rfl, hk⟩ | ⟨hall, rfl⟩⟩
  · go_wp2
    go_ret
    exact ⟨rfl, gb_below (gb_trans g1.out g2.out)⟩
  have G2 := Lib.hid (gb_trans g1.out g2.out)
  clear g1 g2
  go_wp2_with fail
  refine (tries_right _ a1 len1 cap1 e (HE.out.grown G2.out) HR.out (by omega)).mono ?_
  rintro r v3 ⟨ta, tc, ys, rfl, it, tp, tw, g3⟩
  have TY := Lib.hid (sorted_tries e tp.out tw.out)
  have TA0 := Lib.hid (TsAt.of_isTries it.out)
  have G3 := Lib.hid (gb_trans G2.out g3.out)
  have HYL := Lib.hid (show ys.length = (tries e len1).length by rw [← TY.out, List.length_map])
  have hyl6 : (ys.length : Int) ≤ 120 := by have h1 := HYL.out; have h2 := HTN.out; omega
  clear it tp tw g3 G2
  go_wp2_with fail
  refine (states_any a0 len0 cap0 z0 a1 len1 cap1 e _ (HZ.out.grown G3.out) (HE.out.grown G3.out) (by omega) (by omega)).mono ?_
  rintro r v4 ⟨sa, sc, us, rfl, hM, g4, hrow, hus⟩
  have SA := Lib.hid (StsAt.of_rows hrow.out hus.out)
  have HM := Lib.hid (show us.length = before e len1 + 1 by rw [hM.out, cacs_before e HR.out])
  have TA := Lib.hid (TA0.out.grown g4.out)
  have G4 := Lib.hid (gb_trans G3.out g4.out)
  have hM6 : (us.length : Int) ≤ 121 := by have h1 := HM.out; have h2 := before_bound e len1; omega
  generalize us.length = M at *
  clear hM hrow hus g4 G3 TA0
  by_cases h0 : ys.length = 0
  · have h00 : ((ys.length : Int) == 0) = true := by simp only [h0, Int.natCast_zero, beq_self_eq_true]
    clear h0
    go_wp2
    go_ret
    exact ⟨rfl, gb_below G4.out⟩
  have h00 : ((ys.length : Int) == 0) = false := by simp only [beq_eq_false_iff_ne, ne_eq]; omega
  have hpos : (0 : Int) < (ys.length : Int) := by omega
  obtain ⟨no, hno⟩ : ∃ no : Nat, a2.tmod (ys.length : Int) = no := ⟨(a2.tmod (ys.length : Int)).toNat, by have := Int.tmod_nonneg (ys.length : Int) hu0; omega⟩
  have hnl : (no : Int) < (ys.length : Int) := by have := Int.tmod_lt_of_pos a2 hpos; omega
  have hgk := List.getElem?_eq_getElem (show no < ys.length by omega)
  have hti : (tries e len1)[no]? = some ys[no].1 := by rw [← TY.out, List.getElem?_map, hgk]; rfl
  obtain ⟨tb, off, va, vc, rfl, htb, hv, hl, c0, c1, c2, c3, c4, c5, c6, c7, c8⟩ := TA.out.at hgk
  have hac6 : (ys[no].1.ac.length : Int) ≤ 120 := by have := (HAW0.out ys[no].1 (List.mem_of_getElem? hti)).1; omega
  generalize ys[no].1 = t at *
  obtain ⟨xth, xtx, xat, xst, xb, xen, xre, xco, xac⟩ := t
  dsimp only at c0 c1 c2 c3 c4 c5 c6 c7 c8 hl hac6
  have HTI := Lib.hid hti
  have HSP := Lib.hid (fun (pl : Nat) (a : Acc) (g : Nat → Int) => spoilt_first (pl := pl) (a := a) (g := g) (tv := a3) HR.out hf.out hall.out hti)
  have HEN := Lib.hid (show xco = true → ∃ q : Nat, xen = (q : Int) ∧ q < len1 from fun hc => by
    rcases tries_end HR.out hti with ⟨_, h3⟩ | ⟨q, h3, _, h5, _⟩
    · dsimp only at h3; rw [h3] at hc; cases hc
    · exact ⟨q, h3, h5⟩)
  have B0 := Lib.hid (Blk.made v4 41 #[.int .i64 xth, .int .i64 xtx, .int .i64 xat, .int .i64 xst, .int .i64 xb, .int .i64 xen, .int .i64 xre, .bool xco, .slice va xac.length vc])
  have G5 := Lib.hid (gb_trans G4.out (World.grownBy_alloc v4 (.cells #[.int .i64 xth, .int .i64 xtx, .int .i64 xat, .int .i64 xst, .int .i64 xb, .int .i64 xen, .int .i64 xre, .bool xco, .slice va xac.length vc] 41) none))
  have L5 := Lib.hid (hl.alloc (.cells #[.int .i64 xth, .int .i64 xtx, .int .i64 xat, .int .i64 xst, .int .i64 xb, .int .i64 xen, .int .i64 xre, .bool xco, .slice va xac.length vc] 41))
  have S5 := Lib.hid (SA.out.grown (World.grownBy_alloc v4 (.cells #[.int .i64 xth, .int .i64 xtx, .int .i64 xat, .int .i64 xst, .int .i64 xb, .int .i64 xen, .int .i64 xre, .bool xco, .slice va xac.length vc] 41) none))
  clear hgk hti hl hv TA SA HAW0 hf hall TY
  go_wp2_with fail
  generalize v4.alloc _ = u5 at *
  generalize v4.heap.size = bx at *
  clear c0 c1 c2 c3 c4 c5 c6 c7 c8
  have d5 : u5.cell? ⟨bx, 5, none⟩ = some (.int .i64 xen) := B0.out.cell 5
  have d7 : u5.cell? ⟨bx, 7, none⟩ = some (.bool xco) := B0.out.cell 7
  have d8 : u5.cell? ⟨bx, 8, none⟩ = some (.slice va xac.length vc) := B0.out.cell 8
  go_loopw [14] (fun iv wr => ∃ i : Nat, i ≤ xac.length ∧ iv = .int .i64 i ∧ Hid (u5.grownBy wr none)) (fun iv _ => (xac.length - intOf iv).toNat)
  case atStart => exact ⟨0, by omega, rfl, gb_refl _ _⟩
  case round =>
    obtain ⟨i, hi, rfl, G⟩ := hrel
    have y8 := G.out.cell d8 (by simp)
    by_cases hlt : i < xac.length
    · have hlt' : (i : Int) < (xac.length : Int) := by omega
      have hi6 : (i : Int) < 1000000 := by omega
      have hga := List.getElem?_eq_getElem hlt
      have HMEM := Lib.hid (List.getElem_mem hlt)
      obtain ⟨ab, ao, rfl, hab, e0, e1, e2, e3, e4, e5⟩ := accAt (L5.out.grown G.out) hga
      generalize xac[i] = a at *
      obtain ⟨apl, ak, aob, ava, aown, arel⟩ := a
      dsimp only at e0 e1 e2 e3 e4 e5
      by_cases hk : ak = 2
      rotate_left
      · have hkb : (ak != 2) = true := by simp [hk]
        clear hk
        go_wp2; go_roundw; (case rel => exact ⟨i + 1, by omega, by go_num, gb_trans G.out (World.grownBy_alloc _ _ none)⟩); (case measure => simp [intOf]; (try omega))
      have hkb : (ak != 2) = false := by simp [hk]
      have HK := Lib.hid hk
      clear hk
      cases aown with
      | true => go_wp2; go_roundw; (case rel => exact ⟨i + 1, by omega, by go_num, gb_trans G.out (World.grownBy_alloc _ _ none)⟩); (case measure => simp [intOf]; (try omega))
      | false =>
      cases arel with
      | true => go_wp2; go_roundw; (case rel => exact ⟨i + 1, by omega, by go_num, gb_trans G.out (World.grownBy_alloc _ _ none)⟩); (case measure => simp [intOf]; (try omega))
      | false =>
      by_cases ho0 : aob < 0
      · go_wp2; go_roundw; (case rel => exact ⟨i + 1, by omega, by go_num, gb_trans G.out (World.grownBy_alloc _ _ none)⟩); (case measure => simp [intOf]; (try omega))
      have ho0d : decide (aob < 0) = false := by simp; omega
      by_cases hon : (len0 : Int) ≤ aob
      · go_wp2; go_roundw; (case rel => exact ⟨i + 1, by omega, by go_num, gb_trans G.out (World.grownBy_alloc _ _ none)⟩); (case measure => simp [intOf]; (try omega))
      have hond : decide ((len0 : Int) ≤ aob) = false := by simp; omega
      have HO := Lib.hid (show 0 ≤ aob ∧ aob < (len0 : Int) by omega)
      clear ho0 hon
      obtain ⟨p, hp1, hpl⟩ := acc_place HR.out HTI.out HMEM.out
      dsimp only at hp1
      subst hp1
      have HSQ := Lib.hid (fun (g : Nat → Int) => HSP.out p _ g HMEM.out rfl HK.out rfl rfl)
      have BA := Lib.hid (Blk.made wr 48 #[.int .i64 p, .int .i64 ak, .int .i64 aob, .int .i64 ava, .bool false, .bool false])
      have GA := Lib.hid (gb_trans G.out (World.grownBy_alloc wr (.cells #[.int .i64 p, .int .i64 ak, .int .i64 aob, .int .i64 ava, .bool false, .bool false] 48) none))
      clear hga HMEM HSP
      go_wp2_with fail
      generalize wr.alloc _ = u6 at *
      generalize wr.heap.size = bb at *
      obtain ⟨o, ho⟩ : ∃ o : Nat, aob = (o : Int) := ⟨aob.toNat, by have := HO.out; omega⟩
      subst ho
      have hol : (o : Int) < (len0 : Int) := HO.out.2
      have hol2 : o < len0 := by omega
      clear ho0d hond HO
      clear e0 e1 e2 e3 e4 e5 y8
      have b0 : u6.cell? ⟨bb, 0, none⟩ = some (.int .i64 p) := BA.out.cell 0
      have b2 : u6.cell? ⟨bb, 2, none⟩ = some (.int .i64 o) := BA.out.cell 2
      have f5 := GA.out.cell d5 (by simp)
      have f7 := GA.out.cell d7 (by simp)
      have S6 := Lib.hid (S5.out.grown GA.out)
      have HE6 := Lib.hid (HE.out.grown (gb_trans G5.out GA.out))
      obtain ⟨S, hS⟩ : ∃ S, S = stAt z0 (cacs e len1) := ⟨_, rfl⟩
      rw [← hS] at S6
      have HQ : Hid (∀ k, P S o a3 xco (before e xen.toNat) k = ((S k o == a3) && (!xco || decide (k = before e xen.toNat)))) := Lib.hid (fun _ => rfl)
      have HSS := Lib.hid hS
      clear hS
      generalize P S o a3 xco (before e xen.toNat) = Q at *
      go_loopw [16, 17] (fun hv kv wr => ∃ k : Nat, k ≤ M ∧ kv = .int .i64 k ∧ hv = .bool (hadB Q k) ∧ Hid (u6.grownBy wr none)) (fun _ kv _ => (M - intOf kv).toNat)
      case atStart => exact ⟨0, by omega, rfl, rfl, gb_refl _ _⟩
      case round =>
        obtain ⟨k, hk, rfl, rfl, GK⟩ := hrel
        have z0' := GK.out.cell b0 (by simp)
        have z2 := GK.out.cell b2 (by simp)
        have z5 := GK.out.cell f5 (by simp)
        have z7 := GK.out.cell f7 (by simp)
        by_cases hkm : k < M
        · have hkm' : (k : Int) < (M : Int) := by omega
          have hk6 : (k : Int) < 1000000 := by omega
          obtain ⟨sb, so, ai, ci, rfl, hsb, cs, NK0⟩ := S6.out.at hkm
          obtain ⟨rb, ro, rfl, hrb, cr⟩ := NK0.at1 hol2
          have HN0 := Lib.hid (hadB_next (Q := Q) k)
          have HQK := Lib.hid (HQ.out k)
          obtain ⟨sv, hsv⟩ : ∃ sv, sv = S k o := ⟨_, rfl⟩
          rw [← hsv] at cr
          have zs := GK.out.cell cs (by simp)
          have zr := GK.out.cell cr (by simp)
          have HSV := Lib.hid hsv
          clear NK0 hsv
          generalize hadB Q k = hd at *
          cases hd with
          | true =>
            have HN := Lib.hid (show hadB Q (k + 1) = true by rw [HN0.out]; rfl)
            go_wp2_with fail
            go_quiet (fail)
            go_wp2
            go_roundw; (case rel => exact ⟨k + 1, by omega, by go_num, by rw [HN.out], by first | exact GK | exact gb_drewN GK.out _ | exact gb_drew GK.out | exact gb_drew (gb_drewN GK.out _)⟩); (case measure => simp [intOf]; (try omega))
          | false =>
            by_cases hs : sv = a3
            rotate_left
            · have hsd : (sv == a3) = false := by simp [hs]
              have HN := Lib.hid (show hadB Q (k + 1) = false by rw [HN0.out, HQK.out, ← HSV.out, hsd]; rfl)
              clear hs
              go_wp2_with fail
              go_quiet (fail)
              go_wp2
              go_roundw; (case rel => exact ⟨k + 1, by omega, by go_num, by rw [HN.out], by first | exact GK | exact gb_drewN GK.out _ | exact gb_drew GK.out | exact gb_drew (gb_drewN GK.out _)⟩); (case measure => simp [intOf]; (try omega))
            have hsd : (sv == a3) = true := by simp [hs]
            clear hs
            cases xco with
            | false =>
              have HN := Lib.hid (show hadB Q (k + 1) = true by rw [HN0.out, HQK.out, ← HSV.out, hsd]; rfl)
              go_wp2_with fail
              go_quiet (fail)
              go_wp2
              go_roundw; (case rel => exact ⟨k + 1, by omega, by go_num, by rw [HN.out], by first | exact GK | exact gb_drewN GK.out _ | exact gb_drew GK.out | exact gb_drew (gb_drewN GK.out _)⟩); (case measure => simp [intOf]; (try omega))
            | true =>
              obtain ⟨q, hq, hql⟩ := HEN.out rfl
              subst hq
              have BF := Lib.hid (fun u (g : Hid (u6.grownBy u none)) => before_any u a1 len1 cap1 e (q : Int) (WalkArith.wf_i64 (by omega)) (HE6.out.grown g.out) HLC.out (by omega))
              rw [show min len1 ((q : Int)).toNat = q by omega] at BF
              rw [show ((q : Int)).toNat = q by omega] at HQK
              have hb6 : (before e q : Int) ≤ 1000 := by have := before_bound e q; omega
              generalize before e q = bq at *
              have K0 : Hid (u6.grownBy wr.drew none) := Lib.hid (gb_drew GK.out)
              obtain ⟨bl, hbl⟩ : ∃ bl, bl = ((k : Int) == (bq : Int)) := ⟨_, rfl⟩
              have HN := Lib.hid (show hadB Q (k + 1) = bl by
                rw [HN0.out, HQK.out, ← HSV.out, hsd, hbl]
                simp
                by_cases h : k = bq
                · simp [h]
                · rw [decide_eq_false h]; simp; omega)
              have hbl2 : ((k : Int) == (bq : Int)) = bl := hbl.symm
              clear hbl
              go_wp2_with fail
              go_region_held3 (fun w' => Hid (u6.grownBy w' none) ∧ w'.cell? ⟨sb, so + k, none⟩ = some (.slice (some ⟨rb, ro, none⟩) len0 ci) ∧ w'.cell? ⟨rb, ro + o, none⟩ = some (.int .i64 sv) ∧ w'.cell? ⟨bb, 2, none⟩ = some (.int .i64 o) ∧ w'.cell? ⟨bx, 5, none⟩ = some (.int .i64 q) ∧ w'.cell? ⟨bx, 7, none⟩ = some (.bool true)) (go_keep) (first
                | (go_at_call 21; refine (BF.out _ (by assumption)).mono ?_; rintro r u9 ⟨rfl, g9⟩; have K9 : Hid (u6.grownBy u9 none) := Lib.hid (gb_trans (by refine Hid.out ?_; assumption) g9.out); have xs9 := K9.out.cell cs (by simp); have xr9 := K9.out.cell cr (by simp); have x29 := K9.out.cell b2 (by simp); have x59 := K9.out.cell f5 (by simp); have x79 := K9.out.cell f7 (by simp)))
              go_wp2
              go_roundw
              case rel => exact ⟨k + 1, by omega, by go_num, by rw [HN.out], K9⟩
              case measure => simp [intOf]; (try omega)
        · obtain rfl : k = M := by omega
          obtain ⟨hd, hhd⟩ : ∃ hd, hd = hadB Q k := ⟨_, rfl⟩
          rw [← hhd]
          have HHD := Lib.hid hhd
          clear hhd
          cases hd with
          | true =>
            go_wp2
            go_ret
            exact ⟨rfl, gb_below (gb_trans G5.out (gb_trans GA.out GK.out))⟩
          | false =>
            have HNO := Lib.hid (fun x hx => hadB_no HHD.out.symm x hx)
            have hpos1 : 0 < len1 := by omega
            have SRC0 := IsL.src (IsEvs.isL (HE6.out.grown (gb_trans GK.out (World.grownBy_alloc wr (.cells #[] 51) none))))
            rw [evL_len] at SRC0
            have SRC := Lib.hid SRC0
            clear SRC0
            go_upto_region 25 with (at_builtin; go_loud (refine wpList_append_any _ rfl (.tmp 123) (.tmp 124) 23 rfl wr.heap.size 51 i0 _ 7 56 Try.underlying23 hi9.out hz0.out hz1.out hz2.out rfl (by decide) _ 0 [] rfl (ownsRow_empty wr _ 7) a1 len1 cap1 (rows evc (evL e len1)) rfl (by rw [rows_length evc_len, evL_len]) SRC.out (rows_one_cell evc_one _) (by unfold maxLen; omega) (by omega) (by simp) ?_); intro b' c' u7 ho hg hv)
            simp only [Nat.zero_add, List.nil_append] at ho
            obtain ⟨g, rfl, hgb⟩ := row_addr ho hpos1
            have EC := Lib.hid (evs_changed (tv := a3) ho hpl HEW.out HW3.out)
            have HG := Lib.hid (gb_overO (World.grownBy_alloc wr (.cells #[] 51) none) hg (by intro x ex; have ex2 : some wr.heap.size = some x := ex; injection ex2 with ex3; omega))
            have cst0 := ho.cellAt (p * 7 + 5) (by omega)
            rw [rows_get evc_len _ p 5 (e p) (evL_at hpl) (by omega), evc_get _ _ (by omega)] at cst0
            have fr0 := ho.frozenAt (p * 7 + 5)
            have y0 := HG.out.cell z0' (by simp)
            have hplI : (p : Int) < (len1 : Int) := by omega
            have hp6 : (p : Int) < 1000000 := by omega
            have GS := Lib.hid (gb_over (gb_trans GK.out HG.out) EC.out.2 (Nat.le_trans GK.out.size hgb))
            have GT := Lib.hid (gb_trans G5.out (gb_trans GA.out GS.out))
            have ZS := Lib.hid (HZ.out.grown GT.out)
            have SQ := Lib.hid (fun gf hgf => HSQ.out gf (fun x hx => by have h1 := HNO.out x (by rw [HM.out]; exact hx); rw [HQ.out x, HSS.out] at h1; exact h1) hgf)
            have CK := Lib.hid (check_right a0 len0 cap0 z0 (some ⟨g, 0, none⟩) len1 c' (spEv e p a3) _ ZS.out HZW.out EC.out.1 (by rw [right_sp]; exact HR.out) (by omega) (by omega))
            clear hg hv ho SRC HNO HSQ HQ HSS HM S5 S6 z0' z2 z5 z7 b0 b2 f5 f7 BA B0 d5 d7 d8 L5
            go_wp2_with fail
            refine CK.out.mono ?_
            rintro r u8 ⟨gf, hgf, g8, ⟨k2, rfl, hk2⟩ | ⟨hall2, rfl⟩⟩
            · obtain ⟨q1, q2, q3, q4⟩ := SQ.out gf hgf.out
              obtain ⟨r1, r2, r3⟩ := hk2.out
              have hkn : k2 = no := by
                rcases Nat.lt_trichotomy k2 no with l | l | l
                · exact absurd r2 (q4 k2 l)
                · exact l
                · exact absurd q3 (r3 no l)
              subst hkn
              clear q1 q2 q3 q4 r1 r2 r3 hk2 SQ CK hgf
              go_wp2
              go_ret
              exact ⟨rfl, gb_below (gb_trans GT.out g8.out)⟩
            · obtain ⟨q1, q2, q3, q4⟩ := SQ.out gf hgf.out
              exact absurd q3 (hall2.out no (by rw [q1]; exact q2))
    · obtain rfl : i = xac.length := by omega
      go_wp2
      go_ret
      exact ⟨rfl, gb_below (gb_trans G5.out G.out)⟩

theorem own : ownKnob Try.prog.godebug = none := by kernel_rfl
theorem laidOut : laidOutB Try.prog = true := by kernel_rfl

/-! ### THE ROW's STEP, as the guide has it -/
set_option maxRecDepth 100000 in
theorem lifted (os : Os) (started : os.Started) (H : Type) (enc : TypeId × Value → H) :
    ReturnsInHanded {} Try.checked os 5 .any (Rows.opaqueSpoiltSpec.pre6 enc Try.prog Try.f5 Rows.opaqueSpoiltRow.domain false) (Rows.opaqueSpoiltSpec.post enc Try.prog Try.f5 false true false false) := by
  refine returnsInHanded_of_change (C := Try.checked) own started (by kernel_rfl) Try.func5
    (ChangeSpec.witness6 (enc := enc) (C := Try.checked) false ⟨#[], #[.slice none 0 0, .slice none 0 0, .int .u8 0, .int .i64 0], []⟩ 8 (by kernel_rfl) (by kernel_rfl) (by kernel_rfl) (by kernel_rfl)) ?_
  intro W base args ds gs before hval0 hW hcnd _
  have hval : ∀ (j : Nat) t v, Try.f5.params[j]? = some t → args[j]? = some v → Value.okWide Try.prog W .any base t v := hval0
  have hW' := hW
  obtain ⟨p, q, hA0, hV, rfl, hfz, hnd⟩ := hW
  have hA : DataW.TrodAll enc Try.prog W 0 (fun _ => true) true Try.f5.params.toList args.toList ds p := hA0
  rw [Try.params5] at hA hval
  obtain ⟨v0, vs0, d0, ds0, p0, q0, hargs, rfl, rfl, h0, r0⟩ := trodAll_cons hA
  obtain ⟨v1, vs1, d1, ds1, p1, q1, rfl, rfl, rfl, h1, r1⟩ := trodAll_cons r0
  obtain ⟨v2, vs2, d2, ds2, p2, q2, rfl, rfl, rfl, h2, r2⟩ := trodAll_cons r1
  obtain ⟨v3, vs3, d3, ds3, p3, q3, rfl, rfl, rfl, h3, r3⟩ := trodAll_cons r2
  obtain ⟨rfl, rfl, rfl⟩ := trodAll_nil r3
  obtain rfl : args = #[v0, v1, v2, v3] := by cases args; simp_all
  obtain ⟨rfl, rfl⟩ := trodVars_none hV
  obtain ⟨a0, len0, cap0, rfl⟩ := okWide_slice Try.underlying22 (hval 0 22 v0 rfl rfl)
  have k0 := h0
  have lt0 : ∀ x ∈ p0, x.block < W.heap.size := by obtain ⟨m, hm⟩ := k0; exact DataW.trod_lt m _ _ _ hm
  obtain ⟨z0, w0⟩ : ∃ z, IsRow .i64 W a0 len0 cap0 z := by
    obtain ⟨fuel, hf⟩ := h0
    exact isRow_of Try.underlying22 Try.underlying2 (by kernel_rfl) hf
  obtain ⟨a1, len1, cap1, rfl⟩ := okWide_slice Try.underlying23 (hval 1 23 v1 rfl rfl)
  have k1 := h1
  have lt1 : ∀ x ∈ p1, x.block < W.heap.size := by obtain ⟨m, hm⟩ := k1; exact DataW.trod_lt m _ _ _ hm
  obtain ⟨z1, w1⟩ : ∃ z, IsInts 7 W a1 len1 cap1 z := by
    obtain ⟨fuel, hf⟩ := h1
    exact isMixed_of Try.underlying23 Try.underlying51 Try.underlying3 Try.underlying2 (by kernel_rfl) (by kernel_rfl) (by kernel_rfl) (by decide) (by decide) hf
  obtain ⟨a2, rfl, rfl, rfl, w2⟩ := open_int Try.underlying5 (hval 2 5 v2 rfl rfl) h2
  obtain ⟨a3, rfl, rfl, rfl, w3⟩ := open_int Try.underlying2 (hval 3 2 v3 rfl rfl) h3
  clear hA0 hval0
  refine (walk a0 len0 cap0 z0 a1 len1 cap1 z1 a2 a3 W w0 w1 w2 w3).mono fun e W' ⟨he, bel⟩ => ?_
  subst he
  exact ⟨_, rfl, _, _, _, [], _, [], hW', trodAll_mk1 (shut_bool Try.underlying4 _), (trodAll_cons_mk (Below.trod laidOut (by kernel_rfl) (of_decide_eq_true (by kernel_rfl)) k0 bel lt0) (trodAll_cons_mk (Below.trod laidOut (by kernel_rfl) (of_decide_eq_true (by kernel_rfl)) k1 bel lt1) (trodAll_cons_mk (shut_int Try.underlying5 w2) (trodAll_cons_mk (shut_int Try.underlying2 w3) trodAll_mk0)))), rfl, bel.frame _, fun h => by cases h⟩

theorem over : Rows.opaqueSpoiltRow.holds Try.pinned (OpenSpec.ofChange Rows.opaqueSpoiltSpec) :=
  OpenClaim.holds_of_wide 5 Try.f5 rfl rfl rfl rfl rfl rfl rfl ⟨rfl, rfl, rfl, rfl, rfl⟩ rfl rfl rfl rfl rfl (by kernel_rfl) Try.func5 (by kernel_rfl)
    (of_decide_eq_true (by kernel_rfl)) (by unfold Func.isWrapper; first | (rw [if_pos (by decide +kernel)]; kernel_rfl) | (rw [if_neg (by decide +kernel)]; exact ⟨rfl, rfl⟩))
    (fun os started H enc _ => lifted os started H enc)

theorem proved : Rows.OpaqueSpoiltSaid := over
#print axioms proved
end Go.Proofs.Ytkidkhjpijjphaa.opaqueSpoilt
