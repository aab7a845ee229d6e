/- Texts of one's own, one behind the other: Hw, Hp, Hx, Mc, Mq, Piece, Hz6, Hz11, Hz3, Hz20, Hz4, Hz2, Hz33, Hy, Hn, Md, OpenB. -/
import Derived.Test.YtdohepenmejcaaaProg
import Derived.Test.YtdohepenmejcaaaTells2
import Derived.Deep.RegionHeld3
import Derived.Deep.CutRange
import Derived.Deep.DeepCutAuto
import Derived.Deep.QuietTactic
import Derived.BigRegion
import Derived.BigQuiet
import Derived.Deep.RegionLaw
import Derived.ChangeArms
/- The document's own answer of chapter 17: Right. -/
namespace Go.Proofs.Ytdohepenmejcaaa.hs
open Go Go.RowKit Go.Proofs.Ytdohepenmejcaaa.base Go.Maps
set_option linter.unusedVariables false
set_option maxRecDepth 100000

theorem eqb_swap (x y : Int) : (x == y) = decide (y = x) := by
  by_cases h : x = y
  · subst h
    simp
  · have h' : ¬ y = x := fun e => h e.symm
    rw [decide_eq_false h']
    simpa using h
theorem may_open (e : Evs) (k : Nat) (h : opB e (lastI e k (e k).th) k = true) : may e k = (decide (2 ≤ (e k).k) && decide ((e k).k ≤ 6) && ownE (e (lastI e k (e k).th).toNat) (e k)) := by
  unfold opB at h
  rw [Bool.and_eq_true, decide_eq_true_eq] at h
  have ho := opn_ref e k (e k).th
  rw [if_pos h] at ho
  unfold may
  rw [ho]
  have ht := (opn_spec e _ _ _ ho).2.2.1
  generalize (lastI e k (e k).th).toNat = b at *
  unfold ownE
  simp only [ht, decide_true, Bool.true_and]
  rw [eqb_swap (e k).tx, eqb_swap (e k).at_, Bool.and_assoc, Bool.and_assoc]
theorem may_shut (e : Evs) (k : Nat) (h : opB e (lastI e k (e k).th) k = false) : may e k = (((e k).k == 1 && (e k).at_ == IntKind.i64.wrap (cnt e k (e k).th (e k).tx + 1)) || (e k).k == 7) := by
  unfold opB at h
  have ho := opn_ref e k (e k).th
  rw [if_neg (by rintro ⟨h1, h2⟩; simp [h1, h2] at h)] at ho
  unfold may
  rw [ho]

theorem right_no (e : Evs) {k len : Nat} (h : k < len) (hm : may e k = false) : right e len = false := by
  cases hr : right e len with
  | false => rfl
  | true => rw [right_may e hr h] at hm; cases hm

set_option maxHeartbeats 8000000 in
theorem right_doc (a : Option Addr) (len cap : Nat) (e : Evs) (w : World) (hl : IsEvs w a len e) (hlen : len ≤ 1000000) :
    Calls Try.prog 25 #[.slice a len cap] w fun r w' => r = .returned (.bool (right e len)) ∧ Hid (w.grownBy w' none) := by
  have HL := Lib.hid hl
  have HLEN := Lib.hid hlen
  clear hl hlen
  go_enter Try.func25, Try.ntmps25
  go_wp2_with fail
  go_loopw [3] (fun iv wr => ∃ k : Nat, k ≤ len ∧ iv = .int .i64 k ∧ Hid (right e k = true) ∧ Hid (w.grownBy wr none)) (fun iv _ => (len - intOf iv).toNat)
  case atStart => exact ⟨0, by omega, rfl, rfl, gb_refl _ _⟩
  case round =>
    obtain ⟨k, hk, rfl, HR, G⟩ := hrel
    by_cases hlt : k < len
    · obtain ⟨eb, off, rfl, heb, fe0⟩ := evsAt (HL.out.grown G.out) (show 0 < len by omega)
      have FE := Lib.hid fe0
      obtain ⟨c0, c1, c2, c3, c4, c5, c6⟩ := fe0 k hlt
      clear fe0
      have hlt' : (k : Int) < (len : Int) := by omega
      have hlk : (k : Int) < 1000000 := by have := HLEN.out; omega
      have MO := Lib.hid (may_open e k)
      have MS := Lib.hid (may_shut e k)
      have NO := Lib.hid (fun h => right_no e hlt h)
      have YES := Lib.hid (show may e k = true → right e (k + 1) = true from fun h => by rw [right, HR.out, h]; rfl)
      have hL1 := lastI_lt e k (e k).th
      have LA := Lib.hid (fun u h => last_any u (some ⟨eb, off, none⟩) len cap e k (e k).th h (by omega) (by have := HLEN.out; omega))
      generalize lastI e k (e k).th = LI at *
      obtain ⟨hLa, hLb⟩ := hL1
      have OA := Lib.hid (fun u h => open_any u (some ⟨eb, off, none⟩) len cap e LI k h hLa hLb (by omega) (by have := HLEN.out; omega))
      have PO := Lib.hid (show opB e LI k = true → 0 ≤ LI from fun h => by unfold opB at h; rw [Bool.and_eq_true, decide_eq_true_eq] at h; exact h.1)
      generalize opB e LI k = o at *
      have E1 := Lib.hid (Blk.made wr 58 #[.int .i64 ((e k).k), .int .i64 ((e k).th), .int .i64 ((e k).tx), .int .i64 ((e k).at_), .int .i64 ((e k).ob), .int .i64 ((e k).va), .int .i64 ((e k).re)])
      have G1 := Lib.hid (gb_alloc G.out (.cells #[.int .i64 ((e k).k), .int .i64 ((e k).th), .int .i64 ((e k).tx), .int .i64 ((e k).at_), .int .i64 ((e k).ob), .int .i64 ((e k).va), .int .i64 ((e k).re)] 58))
      go_upto_region 5 with fail
      generalize wr.alloc (.cells #[.int .i64 ((e k).k), .int .i64 ((e k).th), .int .i64 ((e k).tx), .int .i64 ((e k).at_), .int .i64 ((e k).ob), .int .i64 ((e k).va), .int .i64 ((e k).re)] 58) = v at *
      generalize wr.heap.size = p at *
      have p_lt := E1.out.lt
      have x0 : v.cell? ⟨p, 0, none⟩ = some (.int .i64 (e k).k) := E1.out.cell 0; have x1 : v.cell? ⟨p, 1, none⟩ = some (.int .i64 (e k).th) := E1.out.cell 1; have x2 : v.cell? ⟨p, 2, none⟩ = some (.int .i64 (e k).tx) := E1.out.cell 2; have x3 : v.cell? ⟨p, 3, none⟩ = some (.int .i64 (e k).at_) := E1.out.cell 3; have x4 : v.cell? ⟨p, 4, none⟩ = some (.int .i64 (e k).ob) := E1.out.cell 4; have x5 : v.cell? ⟨p, 5, none⟩ = some (.int .i64 (e k).va) := E1.out.cell 5; have x6 : v.cell? ⟨p, 6, none⟩ = some (.int .i64 (e k).re) := E1.out.cell 6
      clear c0 c1 c2 c3 c4 c5 c6
      by_cases h1 : (e k).k = 1
      · have f1 : ((e k).k == 1) = true := by simp [h1]
        have W1 := Lib.hid h1
        clear h1
        go_upto_region 10 with (first | (go_at_call 39; refine (LA.out _ (HL.out.grown G1.out)).mono ?_; rintro r u1 ⟨rfl, g1⟩; have E2 := Lib.hid (E1.out.grown g1.out (by simp)); have G2 := Lib.hid (gb_trans G1.out g1.out)) | (go_at_call 40; refine (OA.out _ (HL.out.grown G2.out)).mono ?_; rintro r u2 ⟨rfl, g2⟩; have E3 := Lib.hid (E2.out.grown g2.out (by simp)); have G3 := Lib.hid (gb_trans G2.out g2.out); have p3 := E3.out.lt; have y0 : u2.cell? ⟨p, 0, none⟩ = some (.int .i64 (e k).k) := E3.out.cell 0; have y1 : u2.cell? ⟨p, 1, none⟩ = some (.int .i64 (e k).th) := E3.out.cell 1; have y2 : u2.cell? ⟨p, 2, none⟩ = some (.int .i64 (e k).tx) := E3.out.cell 2; have y3 : u2.cell? ⟨p, 3, none⟩ = some (.int .i64 (e k).at_) := E3.out.cell 3; have y4 : u2.cell? ⟨p, 4, none⟩ = some (.int .i64 (e k).ob) := E3.out.cell 4; have y5 : u2.cell? ⟨p, 5, none⟩ = some (.int .i64 (e k).va) := E3.out.cell 5; have y6 : u2.cell? ⟨p, 6, none⟩ = some (.int .i64 (e k).re) := E3.out.cell 6) | go_in)
        go_wp2
        clear x0 x1 x2 x3 x4 x5 x6 E1 E2 G1 G2 g1 g2 LA OA
        go_loopw [7, 8] (fun nv iv wr => ∃ j : Nat, j ≤ k ∧ iv = .int .i64 j ∧ nv = .int .i64 (cnt e j (e k).th (e k).tx) ∧ Hid (u2.grownBy wr none)) (fun _ iv _ => (k - intOf iv).toNat)
        case atStart => exact ⟨0, by omega, rfl, rfl, gb_refl _ _⟩
        case round =>
          obtain ⟨j, hj, rfl, rfl, GJ⟩ := hrel
          have EJ := Lib.hid (E3.out.grown GJ.out (by simp))
          have z0 : wr.cell? ⟨p, 0, none⟩ = some (.int .i64 (e k).k) := EJ.out.cell 0; have z1 : wr.cell? ⟨p, 1, none⟩ = some (.int .i64 (e k).th) := EJ.out.cell 1; have z2 : wr.cell? ⟨p, 2, none⟩ = some (.int .i64 (e k).tx) := EJ.out.cell 2; have z3 : wr.cell? ⟨p, 3, none⟩ = some (.int .i64 (e k).at_) := EJ.out.cell 3; have z4 : wr.cell? ⟨p, 4, none⟩ = some (.int .i64 (e k).ob) := EJ.out.cell 4; have z5 : wr.cell? ⟨p, 5, none⟩ = some (.int .i64 (e k).va) := EJ.out.cell 5; have z6 : wr.cell? ⟨p, 6, none⟩ = some (.int .i64 (e k).re) := EJ.out.cell 6
          by_cases hjk : j < k
          · have hjk' : (j : Int) < (k : Int) := by omega
            have hjl : (j : Int) < (len : Int) := by omega
            have hj2 : (j : Int) < 1000000 := by omega
            have GG := Lib.hid (gb_trans G3.out GJ.out)
            obtain ⟨c0, c1, c2, c3, c4, c5, c6⟩ := evsIn (HL.out.grown GG.out) (show j < len by omega)
            have hcn := Lib.hid (show cnt e (j + 1) (e k).th (e k).tx = if (e j).k = 1 ∧ (e j).th = (e k).th ∧ (e j).tx = (e k).tx then (e j).at_ else cnt e j (e k).th (e k).tx from rfl)
            generalize cnt e j (e k).th (e k).tx = C0 at *
            by_cases q1 : (e j).k = 1
            · have r1 : ((e j).k == 1) = true := by simp [q1]
              by_cases q2 : (e j).th = (e k).th
              · have r2 : ((e j).th == (e k).th) = true := by simp [q2]
                by_cases q3 : (e j).tx = (e k).tx
                · have r3 : ((e j).tx == (e k).tx) = true := by simp [q3]
                  have HC := Lib.hid (show cnt e (j + 1) (e k).th (e k).tx = (e j).at_ by rw [hcn.out, if_pos ⟨q1, q2, q3⟩])
                  clear q1 q2 q3; go_wp2_with fail; go_big_quiet (fail); go_wp2; go_roundw; (case rel => exact ⟨j + 1, by omega, by go_num, by rw [HC.out], gb_drewN GJ.out _⟩); (case measure => simp [intOf] <;> omega)
                · have r3 : ((e j).tx == (e k).tx) = false := by simp [q3]
                  have HC := Lib.hid (show cnt e (j + 1) (e k).th (e k).tx = C0 by rw [hcn.out, if_neg (fun h => q3 h.2.2)])
                  clear q1 q2 q3; go_wp2_with fail; go_big_quiet (fail); go_wp2; go_roundw; (case rel => exact ⟨j + 1, by omega, by go_num, by rw [HC.out], gb_drewN GJ.out _⟩); (case measure => simp [intOf] <;> omega)
              · have r2 : ((e j).th == (e k).th) = false := by simp [q2]
                have q3 := True.intro
                have HC := Lib.hid (show cnt e (j + 1) (e k).th (e k).tx = C0 by rw [hcn.out, if_neg (fun h => q2 h.2.1)])
                clear q1 q2 q3; go_wp2_with fail; go_big_quiet (fail); go_wp2; go_roundw; (case rel => exact ⟨j + 1, by omega, by go_num, by rw [HC.out], gb_drewN GJ.out _⟩); (case measure => simp [intOf] <;> omega)
            · have r1 : ((e j).k == 1) = false := by simp [q1]
              have q2 := True.intro
              have q3 := True.intro
              have HC := Lib.hid (show cnt e (j + 1) (e k).th (e k).tx = C0 by rw [hcn.out, if_neg (fun h => q1 h.1)])
              clear q1 q2 q3; go_wp2_with fail; go_big_quiet (fail); go_wp2; go_roundw; (case rel => exact ⟨j + 1, by omega, by go_num, by rw [HC.out], gb_drewN GJ.out _⟩); (case measure => simp [intOf] <;> omega)
          · obtain rfl : j = k := by omega
            cases o with
            | true =>
              have HM := Lib.hid (NO.out (by rw [MO.out rfl, W1.out]; rfl))
              go_wp2
              go_ret
              exact ⟨by rw [HM.out]; rfl, gb_trans G3.out GJ.out⟩
            | false =>
              have HS := Lib.hid (MS.out rfl)
              generalize cnt e j (e j).th (e j).tx = CN at *
              have HT := Lib.hid hjk
              obtain ⟨WN, hWN⟩ : ∃ WN, IntKind.i64.wrap (CN + 1) = WN := ⟨_, rfl⟩
              rw [hWN] at HS
              clear hjk hj hLb hLa MO MS
              by_cases q4 : (e j).at_ = WN
              · have r4 : ((e j).at_ != WN) = false := by simp [q4]
                have HM := Lib.hid (YES.out (by rw [HS.out, W1.out, q4]; simp))
                clear q4
                go_wp2
                go_roundw
                case rel => exact ⟨j + 1, by omega, by go_num, HM, gb_trans G3.out GJ.out⟩
                case measure => simp [intOf] <;> omega
              · have r4 : ((e j).at_ != WN) = true := by simp [q4]
                have HM := Lib.hid (NO.out (by rw [HS.out, W1.out]; simp [q4]))
                clear q4
                go_wp2
                go_ret
                exact ⟨by rw [HM.out]; rfl, gb_trans G3.out GJ.out⟩
      · have f1 : ((e k).k == 1) = false := by simp [h1]
        by_cases h7 : (e k).k = 7
        · have f7 : ((e k).k == 7) = true := by simp [h7]
          have W7 := Lib.hid h7
          clear h1 h7
          cases o with
          | true =>
            have HM := Lib.hid (NO.out (by rw [MO.out rfl, W7.out]; rfl))
            go_wp2_with (first | (go_at_call 39; refine (LA.out _ (HL.out.grown G1.out)).mono ?_; rintro r u1 ⟨rfl, g1⟩; have E2 := Lib.hid (E1.out.grown g1.out (by simp)); have G2 := Lib.hid (gb_trans G1.out g1.out)) | (go_at_call 40; refine (OA.out _ (HL.out.grown G2.out)).mono ?_; rintro r u2 ⟨rfl, g2⟩; have E3 := Lib.hid (E2.out.grown g2.out (by simp)); have G3 := Lib.hid (gb_trans G2.out g2.out); have p3 := E3.out.lt; have y0 : u2.cell? ⟨p, 0, none⟩ = some (.int .i64 (e k).k) := E3.out.cell 0; have y1 : u2.cell? ⟨p, 1, none⟩ = some (.int .i64 (e k).th) := E3.out.cell 1; have y2 : u2.cell? ⟨p, 2, none⟩ = some (.int .i64 (e k).tx) := E3.out.cell 2; have y3 : u2.cell? ⟨p, 3, none⟩ = some (.int .i64 (e k).at_) := E3.out.cell 3; have y4 : u2.cell? ⟨p, 4, none⟩ = some (.int .i64 (e k).ob) := E3.out.cell 4; have y5 : u2.cell? ⟨p, 5, none⟩ = some (.int .i64 (e k).va) := E3.out.cell 5; have y6 : u2.cell? ⟨p, 6, none⟩ = some (.int .i64 (e k).re) := E3.out.cell 6) | go_in)
            go_ret
            exact ⟨by rw [HM.out]; rfl, G3.out⟩
          | false =>
            have HM := Lib.hid (YES.out (by rw [MS.out rfl, W7.out]; simp))
            go_wp2_with (first | (go_at_call 39; refine (LA.out _ (HL.out.grown G1.out)).mono ?_; rintro r u1 ⟨rfl, g1⟩; have E2 := Lib.hid (E1.out.grown g1.out (by simp)); have G2 := Lib.hid (gb_trans G1.out g1.out)) | (go_at_call 40; refine (OA.out _ (HL.out.grown G2.out)).mono ?_; rintro r u2 ⟨rfl, g2⟩; have E3 := Lib.hid (E2.out.grown g2.out (by simp)); have G3 := Lib.hid (gb_trans G2.out g2.out); have p3 := E3.out.lt; have y0 : u2.cell? ⟨p, 0, none⟩ = some (.int .i64 (e k).k) := E3.out.cell 0; have y1 : u2.cell? ⟨p, 1, none⟩ = some (.int .i64 (e k).th) := E3.out.cell 1; have y2 : u2.cell? ⟨p, 2, none⟩ = some (.int .i64 (e k).tx) := E3.out.cell 2; have y3 : u2.cell? ⟨p, 3, none⟩ = some (.int .i64 (e k).at_) := E3.out.cell 3; have y4 : u2.cell? ⟨p, 4, none⟩ = some (.int .i64 (e k).ob) := E3.out.cell 4; have y5 : u2.cell? ⟨p, 5, none⟩ = some (.int .i64 (e k).va) := E3.out.cell 5; have y6 : u2.cell? ⟨p, 6, none⟩ = some (.int .i64 (e k).re) := E3.out.cell 6) | go_in)
            go_roundw
            case rel => exact ⟨k + 1, by omega, by go_num, HM, G3⟩
            case measure => simp [intOf] <;> omega
        · have f7 : ((e k).k == 7) = false := by simp [h7]
          by_cases h2 : 2 ≤ (e k).k
          · have f2 : decide (2 ≤ (e k).k) = true := by simp [h2]
            by_cases h6 : (e k).k ≤ 6
            · have f6 : decide ((e k).k ≤ 6) = true := by simp [h6]
              cases o with
              | false =>
                have HM := Lib.hid (NO.out (by rw [MS.out rfl]; simp [h1, h7]))
                clear h1 h7 h2 h6
                go_wp2_with (first | (go_at_call 39; refine (LA.out _ (HL.out.grown G1.out)).mono ?_; rintro r u1 ⟨rfl, g1⟩; have E2 := Lib.hid (E1.out.grown g1.out (by simp)); have G2 := Lib.hid (gb_trans G1.out g1.out)) | (go_at_call 40; refine (OA.out _ (HL.out.grown G2.out)).mono ?_; rintro r u2 ⟨rfl, g2⟩; have E3 := Lib.hid (E2.out.grown g2.out (by simp)); have G3 := Lib.hid (gb_trans G2.out g2.out); have p3 := E3.out.lt; have y0 : u2.cell? ⟨p, 0, none⟩ = some (.int .i64 (e k).k) := E3.out.cell 0; have y1 : u2.cell? ⟨p, 1, none⟩ = some (.int .i64 (e k).th) := E3.out.cell 1; have y2 : u2.cell? ⟨p, 2, none⟩ = some (.int .i64 (e k).tx) := E3.out.cell 2; have y3 : u2.cell? ⟨p, 3, none⟩ = some (.int .i64 (e k).at_) := E3.out.cell 3; have y4 : u2.cell? ⟨p, 4, none⟩ = some (.int .i64 (e k).ob) := E3.out.cell 4; have y5 : u2.cell? ⟨p, 5, none⟩ = some (.int .i64 (e k).va) := E3.out.cell 5; have y6 : u2.cell? ⟨p, 6, none⟩ = some (.int .i64 (e k).re) := E3.out.cell 6) | go_in)
                go_big_quiet (fail)
                go_wp2
                go_ret
                exact ⟨by rw [HM.out]; rfl, gb_drewN G3.out _⟩
              | true =>
                have HM := Lib.hid (MO.out rfl)
                rw [f2, f6, Bool.true_and, Bool.true_and] at HM
                obtain ⟨b, rfl⟩ : ∃ b : Nat, LI = b := ⟨LI.toNat, by have := PO.out rfl; omega⟩
                rw [Int.toNat_natCast] at HM
                have hbk : (b : Int) < (len : Int) := by omega
                have hb6 : (b : Int) < 1000000 := by omega
                clear h1 h7 h2 h6 MO MS PO
                have OW := Lib.hid (own_any (e b) (e k))
                generalize ownE (e b) (e k) = q at *
                go_upto_region 21 with (first | (go_at_call 39; refine (LA.out _ (HL.out.grown G1.out)).mono ?_; rintro r u1 ⟨rfl, g1⟩; have E2 := Lib.hid (E1.out.grown g1.out (by simp)); have G2 := Lib.hid (gb_trans G1.out g1.out)) | (go_at_call 40; refine (OA.out _ (HL.out.grown G2.out)).mono ?_; rintro r u2 ⟨rfl, g2⟩; have E3 := Lib.hid (E2.out.grown g2.out (by simp)); have G3 := Lib.hid (gb_trans G2.out g2.out); have p3 := E3.out.lt; have y0 : u2.cell? ⟨p, 0, none⟩ = some (.int .i64 (e k).k) := E3.out.cell 0; have y1 : u2.cell? ⟨p, 1, none⟩ = some (.int .i64 (e k).th) := E3.out.cell 1; have y2 : u2.cell? ⟨p, 2, none⟩ = some (.int .i64 (e k).tx) := E3.out.cell 2; have y3 : u2.cell? ⟨p, 3, none⟩ = some (.int .i64 (e k).at_) := E3.out.cell 3; have y4 : u2.cell? ⟨p, 4, none⟩ = some (.int .i64 (e k).ob) := E3.out.cell 4; have y5 : u2.cell? ⟨p, 5, none⟩ = some (.int .i64 (e k).va) := E3.out.cell 5; have y6 : u2.cell? ⟨p, 6, none⟩ = some (.int .i64 (e k).re) := E3.out.cell 6) | go_in)
                obtain ⟨d0, d1, d2, d3, d4, d5, d6⟩ := evsIn (HL.out.grown G3.out) (show b < len by omega)
                clear x0 x1 x2 x3 x4 x5 x6
                cases q with
                | true =>
                  have HY := Lib.hid (YES.out HM.out)
                  go_region_held3 (fun w' => w'.cell? ⟨eb, off + b * 7, none⟩ = some (.int .i64 (e b).k) ∧ w'.cell? ⟨eb, off + b * 7 + 1, none⟩ = some (.int .i64 (e b).th) ∧ w'.cell? ⟨eb, off + b * 7 + 2, none⟩ = some (.int .i64 (e b).tx) ∧ w'.cell? ⟨eb, off + b * 7 + 3, none⟩ = some (.int .i64 (e b).at_) ∧ w'.cell? ⟨eb, off + b * 7 + 4, none⟩ = some (.int .i64 (e b).ob) ∧ w'.cell? ⟨eb, off + b * 7 + 5, none⟩ = some (.int .i64 (e b).va) ∧ w'.cell? ⟨eb, off + b * 7 + 6, none⟩ = some (.int .i64 (e b).re) ∧ w'.cell? ⟨p, 0, none⟩ = some (.int .i64 ((e k).k)) ∧ w'.cell? ⟨p, 1, none⟩ = some (.int .i64 ((e k).th)) ∧ w'.cell? ⟨p, 2, none⟩ = some (.int .i64 ((e k).tx)) ∧ w'.cell? ⟨p, 3, none⟩ = some (.int .i64 ((e k).at_)) ∧ w'.cell? ⟨p, 4, none⟩ = some (.int .i64 ((e k).ob)) ∧ w'.cell? ⟨p, 5, none⟩ = some (.int .i64 ((e k).va)) ∧ w'.cell? ⟨p, 6, none⟩ = some (.int .i64 ((e k).re))) (go_keep) ((go_at_call 41; refine (OW.out _).mono ?_; rintro r u3 ⟨rfl, g3⟩; have m0 := g3.out.cell d0 (by simp); have m1 := g3.out.cell d1 (by simp); have m2 := g3.out.cell d2 (by simp); have m3 := g3.out.cell d3 (by simp); have m4 := g3.out.cell d4 (by simp); have m5 := g3.out.cell d5 (by simp); have m6 := g3.out.cell d6 (by simp); have n0 := g3.out.cell y0 (by simp); have n1 := g3.out.cell y1 (by simp); have n2 := g3.out.cell y2 (by simp); have n3 := g3.out.cell y3 (by simp); have n4 := g3.out.cell y4 (by simp); have n5 := g3.out.cell y5 (by simp); have n6 := g3.out.cell y6 (by simp)))
                  go_wp2
                  go_roundw
                  case rel => exact ⟨k + 1, by omega, by go_num, HY, gb_trans (gb_drew G3.out) g3.out⟩
                  case measure => simp [intOf] <;> omega
                | false =>
                  have HY := Lib.hid (NO.out HM.out)
                  go_region_held3 (fun w' => w'.cell? ⟨eb, off + b * 7, none⟩ = some (.int .i64 (e b).k) ∧ w'.cell? ⟨eb, off + b * 7 + 1, none⟩ = some (.int .i64 (e b).th) ∧ w'.cell? ⟨eb, off + b * 7 + 2, none⟩ = some (.int .i64 (e b).tx) ∧ w'.cell? ⟨eb, off + b * 7 + 3, none⟩ = some (.int .i64 (e b).at_) ∧ w'.cell? ⟨eb, off + b * 7 + 4, none⟩ = some (.int .i64 (e b).ob) ∧ w'.cell? ⟨eb, off + b * 7 + 5, none⟩ = some (.int .i64 (e b).va) ∧ w'.cell? ⟨eb, off + b * 7 + 6, none⟩ = some (.int .i64 (e b).re) ∧ w'.cell? ⟨p, 0, none⟩ = some (.int .i64 ((e k).k)) ∧ w'.cell? ⟨p, 1, none⟩ = some (.int .i64 ((e k).th)) ∧ w'.cell? ⟨p, 2, none⟩ = some (.int .i64 ((e k).tx)) ∧ w'.cell? ⟨p, 3, none⟩ = some (.int .i64 ((e k).at_)) ∧ w'.cell? ⟨p, 4, none⟩ = some (.int .i64 ((e k).ob)) ∧ w'.cell? ⟨p, 5, none⟩ = some (.int .i64 ((e k).va)) ∧ w'.cell? ⟨p, 6, none⟩ = some (.int .i64 ((e k).re))) (go_keep) ((go_at_call 41; refine (OW.out _).mono ?_; rintro r u3 ⟨rfl, g3⟩; have m0 := g3.out.cell d0 (by simp); have m1 := g3.out.cell d1 (by simp); have m2 := g3.out.cell d2 (by simp); have m3 := g3.out.cell d3 (by simp); have m4 := g3.out.cell d4 (by simp); have m5 := g3.out.cell d5 (by simp); have m6 := g3.out.cell d6 (by simp); have n0 := g3.out.cell y0 (by simp); have n1 := g3.out.cell y1 (by simp); have n2 := g3.out.cell y2 (by simp); have n3 := g3.out.cell y3 (by simp); have n4 := g3.out.cell y4 (by simp); have n5 := g3.out.cell y5 (by simp); have n6 := g3.out.cell y6 (by simp)))
                  go_wp2
                  go_ret
                  exact ⟨by rw [HY.out]; rfl, gb_trans (gb_drew G3.out) g3.out⟩
            · have f6 : decide ((e k).k ≤ 6) = false := by simpa using h6
              have HM := Lib.hid (NO.out (by cases o with | true => rw [MO.out rfl, f6]; simp | false => rw [MS.out rfl]; simp [h1, h7]))
              clear h1 h7 h2 h6
              go_wp2_with (first | (go_at_call 39; refine (LA.out _ (HL.out.grown G1.out)).mono ?_; rintro r u1 ⟨rfl, g1⟩; have E2 := Lib.hid (E1.out.grown g1.out (by simp)); have G2 := Lib.hid (gb_trans G1.out g1.out)) | (go_at_call 40; refine (OA.out _ (HL.out.grown G2.out)).mono ?_; rintro r u2 ⟨rfl, g2⟩; have E3 := Lib.hid (E2.out.grown g2.out (by simp)); have G3 := Lib.hid (gb_trans G2.out g2.out); have p3 := E3.out.lt; have y0 : u2.cell? ⟨p, 0, none⟩ = some (.int .i64 (e k).k) := E3.out.cell 0; have y1 : u2.cell? ⟨p, 1, none⟩ = some (.int .i64 (e k).th) := E3.out.cell 1; have y2 : u2.cell? ⟨p, 2, none⟩ = some (.int .i64 (e k).tx) := E3.out.cell 2; have y3 : u2.cell? ⟨p, 3, none⟩ = some (.int .i64 (e k).at_) := E3.out.cell 3; have y4 : u2.cell? ⟨p, 4, none⟩ = some (.int .i64 (e k).ob) := E3.out.cell 4; have y5 : u2.cell? ⟨p, 5, none⟩ = some (.int .i64 (e k).va) := E3.out.cell 5; have y6 : u2.cell? ⟨p, 6, none⟩ = some (.int .i64 (e k).re) := E3.out.cell 6) | go_in)
              go_ret
              exact ⟨by rw [HM.out]; rfl, G3.out⟩
          · have f2 : decide (2 ≤ (e k).k) = false := by simpa using h2
            have HM := Lib.hid (NO.out (by cases o with | true => rw [MO.out rfl, f2]; simp | false => rw [MS.out rfl]; simp [h1, h7]))
            clear h1 h7 h2
            go_wp2_with (first | (go_at_call 39; refine (LA.out _ (HL.out.grown G1.out)).mono ?_; rintro r u1 ⟨rfl, g1⟩; have E2 := Lib.hid (E1.out.grown g1.out (by simp)); have G2 := Lib.hid (gb_trans G1.out g1.out)) | (go_at_call 40; refine (OA.out _ (HL.out.grown G2.out)).mono ?_; rintro r u2 ⟨rfl, g2⟩; have E3 := Lib.hid (E2.out.grown g2.out (by simp)); have G3 := Lib.hid (gb_trans G2.out g2.out); have p3 := E3.out.lt; have y0 : u2.cell? ⟨p, 0, none⟩ = some (.int .i64 (e k).k) := E3.out.cell 0; have y1 : u2.cell? ⟨p, 1, none⟩ = some (.int .i64 (e k).th) := E3.out.cell 1; have y2 : u2.cell? ⟨p, 2, none⟩ = some (.int .i64 (e k).tx) := E3.out.cell 2; have y3 : u2.cell? ⟨p, 3, none⟩ = some (.int .i64 (e k).at_) := E3.out.cell 3; have y4 : u2.cell? ⟨p, 4, none⟩ = some (.int .i64 (e k).ob) := E3.out.cell 4; have y5 : u2.cell? ⟨p, 5, none⟩ = some (.int .i64 (e k).va) := E3.out.cell 5; have y6 : u2.cell? ⟨p, 6, none⟩ = some (.int .i64 (e k).re) := E3.out.cell 6) | go_in)
            go_ret
            exact ⟨by rw [HM.out]; rfl, G3.out⟩
    · obtain rfl : k = len := by omega
      go_wp2
      go_ret
      exact ⟨by rw [HR.out]; rfl, G.out⟩
end Go.Proofs.Ytdohepenmejcaaa.hs

/- The tries of a trace's beginning, and those of the trace. Of no program, and of no memory. -/
namespace Go.Proofs.Ytdohepenmejcaaa.base
open Go

theorem stepT_ac (t : Tr) (i : Nat) (e : Ev) : t.ac.length ≤ (stepT t i e).ac.length := by
  unfold stepT
  repeat' split
  all_goals simp [relAll]
theorem trAt_ac (e : Evs) (b : Nat) : ∀ i j, (trAt e b i).ac.length ≤ (trAt e b (i + j)).ac.length
  | _, 0 => Nat.le_refl _
  | i, j + 1 => by
    have ih := trAt_ac e b i j
    rw [← Nat.add_assoc, trAt]
    split
    · exact Nat.le_trans ih (stepT_ac _ _ _)
    · exact ih

/-- What begins ahead of a place, begins ahead of a later one, first. -/
theorem begins_pre (e : Evs) (m j : Nat) : ∃ r, begins e (m + j) = begins e m ++ r := by
  unfold begins
  rw [List.range_add, List.filter_append]
  exact ⟨_, rfl⟩

theorem tries_len (e : Evs) {m n : Nat} (h : m ≤ n) : (tries e m).length ≤ (tries e n).length := by
  obtain ⟨r, hr⟩ := begins_pre e m (n - m)
  rw [show m + (n - m) = n by omega] at hr
  unfold tries
  rw [List.length_map, List.length_map, hr, List.length_append]
  omega
theorem begins_n (e : Evs) (n : Nat) : (begins e n).length ≤ n := by
  unfold begins
  have := List.length_filter_le (fun i => decide ((e i).k = 1)) (List.range n)
  rwa [List.length_range] at this
theorem tries_n (e : Evs) (n : Nat) : (tries e n).length ≤ n := by
  unfold tries
  rw [List.length_map]
  exact begins_n e n

/-- A beginning's tries are the trace's own first ones: what had ended stands as it was, and none did less. -/
theorem tries_pre (e : Evs) {m n : Nat} (h : m ≤ n) {i : Nat} {x y : Tr} (hx : (tries e m)[i]? = some x) (hy : (tries e n)[i]? = some y) : x.b = y.b ∧ (0 ≤ x.en → x.en = y.en) ∧ x.ac.length ≤ y.ac.length := by
  obtain ⟨r, hr⟩ := begins_pre e m (n - m)
  rw [show m + (n - m) = n by omega] at hr
  unfold tries at hx hy
  rw [List.getElem?_map, Option.map_eq_some_iff] at hx hy
  obtain ⟨b, hb, rfl⟩ := hx
  obtain ⟨c, hc, rfl⟩ := hy
  have hl : i < (begins e m).length := (List.getElem?_eq_some_iff.1 hb).1
  rw [hr, List.getElem?_append_left hl, hb] at hc
  cases hc
  refine ⟨by rw [(trAt_fix e b m).2.2.2.2, (trAt_fix e b n).2.2.2.2], fun h0 => by rw [trAt_end e b h0 h], ?_⟩
  have := trAt_ac e b m (n - m)
  rwa [show m + (n - m) = n by omega] at this

/-- What was sorted by the beginnings: the tries, one by one. -/
theorem sorted_tries (e : Evs) {n : Nat} {β : Type} {ys : List (Tr × β)} (h2 : (ys.map Prod.fst).Perm (tries e n)) (h3 : (ys.map Prod.fst).Pairwise (fun x y => x.b ≤ y.b)) : ys.map Prod.fst = tries e n :=
  sorted_one Tr.b h2 (tries_sorted e n) (h3.imp fun h => by omega)
end Go.Proofs.Ytdohepenmejcaaa.base

/- The document's own tries of chapter 17: plain facts. -/
namespace Go.Proofs.Ytdohepenmejcaaa.hs
open Go Go.RowKit Go.Proofs.Ytdohepenmejcaaa.base Go.Maps
set_option linter.unusedVariables false
set_option maxRecDepth 100000

theorem wp_pcs {P : Program} {c c' : Code} {Q : Exit → Act → World → Prop} {a : Act} {w : World} (h : c = c') (hw : Code.wp P c' Q a w) : Code.wp P c Q a w := h ▸ hw
theorem own_flip {w0 w : World} {A B : Blks} (h : base.Own w0 w (A ++ B)) : base.Own w0 w (B ++ A) := h.perm List.perm_append_comm
theorem owns_zero {base : Nat} {e : TypeId} {sz : Nat} {w : World} {v : Value} {n : Nat} {xs : List Value} (h : w.ownsRow base e sz v n xs) : w.ownsRow 0 e sz v n xs := by
  refine ⟨h.1, ?_⟩
  rcases h.2 with h | ⟨g, cap, cur, h1, _, h3⟩
  · exact .inl h
  · exact .inr ⟨g, cap, cur, h1, Nat.zero_le _, h3⟩

/-- What the document's loop does to a try at a place. -/
theorem doc_step (e : Evs) {len b k : Nat} (hr : right e len = true) (hk1 : (e b).k = 1) (hbk : b < k) (hkl : k < len) (hen : (trAt e b k).en < 0) : trAt e b (k + 1) = if ownE (e b) (e k) = true then base.stepT (trAt e b k) k (e k) else trAt e b k := by
  have h1 := docAt_eq e b hk1 (k + 1) (right_le e hr (k + 1) hkl)
  have h0 := docAt_eq e b hk1 k (right_le e hr k (by omega))
  rw [docAt, h0] at h1
  rw [← h1]
  by_cases h : ownE (e b) (e k) = true
  · rw [if_pos ⟨hbk, h, hen⟩, if_pos h]
  · rw [if_neg (fun h2 => h h2.2.1), if_neg h]

theorem stepT_2 (t : Tr) (i : Nat) {e : Ev} (h : e.k = 2) : base.stepT t i e = { t with ac := t.ac ++ [⟨i, 2, e.ob, e.va, wrote t.ac e.ob, false⟩] } := by unfold base.stepT; rw [if_pos h]
theorem stepT_3 (t : Tr) (i : Nat) {e : Ev} (h : e.k = 3) : base.stepT t i e = { t with ac := t.ac ++ [⟨i, 3, e.ob, e.va, false, false⟩] } := by unfold base.stepT; rw [if_neg (by omega), if_pos h]
theorem stepT_4 (t : Tr) (i : Nat) {e : Ev} (h : e.k = 4) : base.stepT t i e = { t with ac := relAll t.ac e.ob } := by unfold base.stepT; rw [if_neg (by omega), if_neg (by omega), if_pos h]
theorem stepT_5 (t : Tr) (i : Nat) {e : Ev} (h : e.k = 5) : base.stepT t i e = { t with en := i, co := true } := by unfold base.stepT; rw [if_neg (by omega), if_neg (by omega), if_neg (by omega), if_pos h]
theorem stepT_6 (t : Tr) (i : Nat) {e : Ev} (h : e.k = 6) : base.stepT t i e = { t with en := i, re := e.re } := by unfold base.stepT; rw [if_neg (by omega), if_neg (by omega), if_neg (by omega), if_neg (by omega), if_pos h]
theorem stepT_no (t : Tr) (i : Nat) {e : Ev} (h2 : e.k ≠ 2) (h3 : e.k ≠ 3) (h4 : e.k ≠ 4) (h5 : e.k ≠ 5) (h6 : e.k ≠ 6) : base.stepT t i e = t := by unfold base.stepT; rw [if_neg h2, if_neg h3, if_neg h4, if_neg h5, if_neg h6]

theorem wrote_take {l : List Acc} {n : Nat} {a : Acc} (h : l[n]? = some a) (o : Int) : wrote (l.take (n + 1)) o = (wrote (l.take n) o || (decide (a.k = 3) && decide (a.ob = o))) := by
  rw [List.take_add_one, h]
  simp [wrote]
theorem wrote_all (l : List Acc) (o : Int) : wrote (l.take l.length) o = wrote l o := by rw [List.take_length]
theorem wrote_zero (l : List Acc) (o : Int) : wrote (l.take 0) o = false := rfl

/-- The readings of an object among the first n accesses are released. -/
def relN (l : List Acc) (o : Int) (n : Nat) : List Acc := (l.take n).map (Acc.free o) ++ l.drop n
theorem relN_zero (l : List Acc) (o : Int) : relN l o 0 = l := by simp [relN]
theorem relN_all (l : List Acc) (o : Int) : relN l o l.length = relAll l o := by simp [relN, relAll]
theorem relN_len (l : List Acc) (o : Int) (n : Nat) : (relN l o n).length = l.length := by simp [relN]; omega
theorem relN_get {l : List Acc} {o : Int} {n : Nat} (h : n < l.length) : (relN l o n)[n]? = some l[n] := by
  unfold relN
  rw [List.getElem?_append_right (by simp; omega)]
  simp [Nat.min_eq_left (Nat.le_of_lt h)]
theorem setRel_mid (x : Acc) (B : List Acc) : ∀ A : List Acc, setRel (A ++ x :: B) A.length = A ++ { x with rel := true } :: B
  | [] => by simp [setRel]
  | a :: A => by
    rw [List.cons_append, List.length_cons, setRel_cons, setRel_mid x B A]
    rfl
theorem relN_step {l : List Acc} {o : Int} {n : Nat} (h : n < l.length) : relN l o (n + 1) = if l[n].k = 2 ∧ l[n].ob = o then setRel (relN l o n) n else relN l o n := by
  have e1 : relN l o (n + 1) = (l.take n).map (Acc.free o) ++ Acc.free o l[n] :: l.drop (n + 1) := by
    unfold relN
    rw [List.take_add_one, List.getElem?_eq_getElem h, List.map_append, List.append_assoc]
    rfl
  have e2 : relN l o n = (l.take n).map (Acc.free o) ++ l[n] :: l.drop (n + 1) := by
    unfold relN
    rw [List.drop_eq_getElem_cons h]
  have e3 : ((l.take n).map (Acc.free o)).length = n := by simp; omega
  rw [e1]
  split
  · next hc =>
    rw [e2]
    have e4 := setRel_mid l[n] (l.drop (n + 1)) ((l.take n).map (Acc.free o))
    rw [e3] at e4
    rw [e4]
    simp [Acc.free, hc]
  · next hc =>
    rw [e2]
    simp [Acc.free, hc]

/-- The tries of ys lie there, each with its accesses, wherever. -/
def TsAt (w : World) (a : Option Addr) (ys : List (Tr × Value)) : Prop :=
  (∀ i x, ys[i]? = some x → ∃ b off, a = some ⟨b, off, none⟩ ∧ b < w.heap.size ∧ ∀ j u, (tvC x)[j]? = some u → w.cell? ⟨b, off + i * 9 + j, none⟩ = some u) ∧
  ∀ x ∈ ys, ∃ va vc, x.2 = .slice va x.1.ac.length vc ∧ IsL accC w va x.1.ac
theorem TsAt.grown {w w' : World} {a : Option Addr} {ys : List (Tr × Value)} (h : TsAt w a ys) (g : w.grownBy w' none) : TsAt w' a ys := by
  refine ⟨fun i x hx => ?_, fun x hx => ?_⟩
  · obtain ⟨b, off, h1, h2, h3⟩ := h.1 i x hx
    exact ⟨b, off, h1, Nat.lt_of_lt_of_le h2 g.size, fun j u hu => g.cell (h3 j u hu) (by simp)⟩
  · obtain ⟨va, vc, h1, h2⟩ := h.2 x hx
    exact ⟨va, vc, h1, h2.grown g⟩
theorem TsAt.of_isTries {w : World} {a : Option Addr} {ys : List (Tr × Value)} (h : IsTries w a ys) : TsAt w a ys := by
  obtain ⟨h1, h2⟩ := h
  refine ⟨fun i x hx => ?_, fun x hx => ?_⟩
  · rcases h1 with rfl | ⟨g, rfl, hg, hc⟩
    · simp at hx
    · exact ⟨g, 0, rfl, hg, fun j u hu => by rw [Nat.zero_add]; exact hc i x hx j u hu⟩
  · have h3 := h2 x hx
    obtain ⟨va, vc, hv⟩ := owns_slice h3
    exact ⟨va, vc, hv, IsL.of_own (by rw [← hv]; exact h3) accC_len rfl⟩
theorem TsAt.of_row {w0 w : World} {e : TypeId} {v : Value} {ys : List (Tr × Value)} {L R : Blks} (h : Row tvC 9 e ys v L) (o : base.Own w0 w (L ++ R)) (ha : ∀ x ∈ ys, ∃ va vc, x.2 = .slice va x.1.ac.length vc ∧ IsL accC w va x.1.ac) : ∃ a c, v = .slice a ys.length c ∧ TsAt w a ys := by
  obtain ⟨a, c, hv, hi⟩ := h.isL tvC_len o
  exact ⟨a, c, hv, fun i x hx => hi.at tvC_len hx, ha⟩
/-- The fields of a try, in their cells. -/
theorem TsAt.at {w : World} {a : Option Addr} {ys : List (Tr × Value)} (h : TsAt w a ys) {i : Nat} {x : Tr × Value} (hx : ys[i]? = some x) : ∃ b off va vc, a = some ⟨b, off, none⟩ ∧ b < w.heap.size ∧ x.2 = .slice va x.1.ac.length vc ∧ IsL accC w va x.1.ac ∧
    w.cell? ⟨b, off + i * 9, none⟩ = some (.int .i64 x.1.th) ∧ w.cell? ⟨b, off + i * 9 + 1, none⟩ = some (.int .i64 x.1.tx) ∧ w.cell? ⟨b, off + i * 9 + 2, none⟩ = some (.int .i64 x.1.at_) ∧ w.cell? ⟨b, off + i * 9 + 3, none⟩ = some (.int .i64 x.1.st) ∧ w.cell? ⟨b, off + i * 9 + 4, none⟩ = some (.int .i64 x.1.b) ∧ w.cell? ⟨b, off + i * 9 + 5, none⟩ = some (.int .i64 x.1.en) ∧ w.cell? ⟨b, off + i * 9 + 6, none⟩ = some (.int .i64 x.1.re) ∧ w.cell? ⟨b, off + i * 9 + 7, none⟩ = some (.bool x.1.co) ∧ w.cell? ⟨b, off + i * 9 + 8, none⟩ = some (.slice va x.1.ac.length vc) := by
  obtain ⟨b, off, h1, h2, h3⟩ := h.1 i x hx
  obtain ⟨va, vc, h4, h5⟩ := h.2 x (List.mem_of_getElem? hx)
  exact ⟨b, off, va, vc, h1, h2, h4, h5, h3 0 _ rfl, h3 1 _ rfl, h3 2 _ rfl, h3 3 _ rfl, h3 4 _ rfl, h3 5 _ rfl, h3 6 _ rfl, h3 7 _ rfl, by rw [← h4]; exact h3 8 _ rfl⟩
/-- An access, in its cells. -/
theorem accAt {w : World} {va : Option Addr} {l : List Acc} (h : IsL accC w va l) {j : Nat} {a : Acc} (hj : l[j]? = some a) : ∃ b off, va = some ⟨b, off, none⟩ ∧ b < w.heap.size ∧ w.cell? ⟨b, off + j * 6, none⟩ = some (.int .i64 a.pl) ∧ w.cell? ⟨b, off + j * 6 + 1, none⟩ = some (.int .i64 a.k) ∧ w.cell? ⟨b, off + j * 6 + 2, none⟩ = some (.int .i64 a.ob) ∧ w.cell? ⟨b, off + j * 6 + 3, none⟩ = some (.int .i64 a.va) ∧ w.cell? ⟨b, off + j * 6 + 4, none⟩ = some (.bool a.own) ∧ w.cell? ⟨b, off + j * 6 + 5, none⟩ = some (.bool a.rel) := by
  obtain ⟨b, off, h1, h2, h3⟩ := h.at accC_len hj
  exact ⟨b, off, h1, h2, h3 0 _ rfl, h3 1 _ rfl, h3 2 _ rfl, h3 3 _ rfl, h3 4 _ rfl, h3 5 _ rfl⟩
/-- Accesses of one's own, as long as only others' blocks are written. -/
theorem isL_owns {w : World} {v : Value} {t : Tr} {e : TypeId} {base : Nat} (h : w.ownsRow base e 6 v t.ac.length (rows accC t.ac)) : ∃ va vc, v = .slice va t.ac.length vc ∧ IsL accC w va t.ac := by
  obtain ⟨va, vc, hv⟩ := owns_slice h
  exact ⟨va, vc, hv, IsL.of_own (by rw [← hv]; exact h) accC_len rfl⟩

/-- Rows of two types have no block in common. -/
theorem owns_other {w w' : World} {b1 b2 : Nat} {E1 E2 : TypeId} {s1 s2 n1 n2 : Nat} {v1 v2 : Value} {x1 x2 : List Value} (h1 : w.ownsRow b1 E1 s1 v1 n1 x1) (h2 : w.ownsRow b2 E2 s2 v2 n2 x2) (hne : E1 ≠ E2) (g : w.grownBy w' v2.ownBlock) : w'.ownsRow b1 E1 s1 v1 n1 x1 := by
  refine ownsRow_keep h1 (fun k e => g.block k (h1.lt k e).2 (fun e2 => ?_))
  obtain ⟨cs, hc⟩ := ownsRow_type h1 e
  obtain ⟨ds, hd⟩ := ownsRow_type h2 e2.symm
  rw [hc] at hd
  injection hd with hd
  injection hd with _ hd
  exact hne hd
/-- One more try, and its accesses. -/
theorem acs_snoc {u w w' : World} {E E2 : TypeId} {b2 s2 n2 : Nat} {v2 : Value} {x2 : List Value} {ys : List (Tr × Value)} {x : Tr × Value} {base : Nat} (hy : ∀ y ∈ ys, u.ownsRow 0 E 6 y.2 y.1.ac.length (rows accC y.1.ac)) (g : u.grownBy w none) (hx : w.ownsRow base E 6 x.2 x.1.ac.length (rows accC x.1.ac)) (h2 : w.ownsRow b2 E2 s2 v2 n2 x2) (hne : E ≠ E2) (g2 : w.grownBy w' v2.ownBlock) : ∀ y ∈ ys ++ [x], w'.ownsRow 0 E 6 y.2 y.1.ac.length (rows accC y.1.ac) := by
  intro y hm
  rcases List.mem_append.1 hm with hm | hm
  · exact owns_other (ownsRow_keep (hy y hm) (fun k e => g.block k ((hy y hm).lt k e).2 (by simp))) h2 hne g2
  · have : y = x := by simpa using hm
    subst this
    exact owns_other (owns_zero hx) h2 hne g2

/-- One of one's own accesses is marked as released. -/
theorem row_mark {w0 w : World} {E : TypeId} {l : List Acc} {g m cap n : Nat} {L R : Blks} (h : Row accC 6 E l (.slice (some ⟨g, 0, none⟩) m cap) L) (hm : m = l.length) (o : base.Own w0 w (L ++ R)) (hn : n < l.length) :
    ∃ L', Row accC 6 E (setRel l n) (.slice (some ⟨g, 0, none⟩) m cap) L' ∧ base.Own w0 (w.setCell ⟨g, n * 6 + 5, none⟩ (.bool true)) (L' ++ R) := by
  subst hm
  obtain ⟨cur, h1, h2, h3, h4, h5⟩ := h.open o
  have hb : Blk E (w.setCell ⟨g, n * 6 + 5, none⟩ (.bool true)) g ⟨cur.set (n * 6 + 5) (.bool true)⟩ := by simpa using h1.set (n * 6 + 5) (.bool true)
  obtain ⟨L', r1, r2⟩ := Row.write (l' := setRel l n) h o (gb_setB (gb_refl w _) (.bool true)) hb (by rw [List.length_set]; exact h2) (by rw [setRel_len]; exact h3) (by rw [setRel_len, List.take_set, h5, rows_setRel l n hn])
  rw [setRel_len] at r1
  exact ⟨L', r1, r2⟩
theorem row_free {w0 w : World} {E : TypeId} {l : List Acc} {g m cap : Nat} {L R : Blks} (h : Row accC 6 E l (.slice (some ⟨g, 0, none⟩) m cap) L) (hm : m = l.length) (o : base.Own w0 w (L ++ R)) (j : Nat) : w.frozen? ⟨g, j, none⟩ = false := by
  subst hm
  obtain ⟨cur, h1, _⟩ := h.open o
  exact h1.free j

theorem begins_succ (e : Evs) (n : Nat) : begins e (n + 1) = if (e n).k = 1 then begins e n ++ [n] else begins e n := by
  unfold begins
  rw [List.range_succ, List.filter_append]
  by_cases h : (e n).k = 1
  · rw [if_pos h]
    simp [h]
  · rw [if_neg h]
    simp [h]
end Go.Proofs.Ytdohepenmejcaaa.hs

/- States of a beginning of a trace; lists of states as they lie; are they the same? -/
namespace Go.Proofs.Ytdohepenmejcaaa.md
open Go Go.RowKit Go.Proofs.Ytdohepenmejcaaa.base Go.Proofs.Ytdohepenmejcaaa.hs Go.Proofs.Ytdohepenmejcaaa.lg Go.Maps
set_option linter.unusedVariables false
set_option maxRecDepth 100000

theorem map_filter_same {α β : Type} (p : β → Bool) (f g : α → β) : ∀ l : List α, (∀ b ∈ l, (p (f b) = false ∧ p (g b) = false) ∨ f b = g b) → (l.map f).filter p = (l.map g).filter p
  | [], _ => rfl
  | b :: l, h => by
    have ih := map_filter_same p f g l (fun x hx => h x (List.mem_cons_of_mem _ hx))
    simp only [List.map_cons, List.filter_cons]
    rcases h b (by simp) with ⟨h1, h2⟩ | h1
    · rw [h1, h2, ih]; simp
    · rw [h1, ih]

theorem tries_at_end (e : Evs) (n i : Nat) (hi : i < n) : (tries e (n + 1)).filter (fun t => t.co && decide (t.en = (i : Int))) = (tries e n).filter (fun t => t.co && decide (t.en = (i : Int))) := by
  have key : ((begins e n).map fun b => trAt e b (n + 1)).filter (fun t => t.co && decide (t.en = (i : Int))) = ((begins e n).map fun b => trAt e b n).filter (fun t => t.co && decide (t.en = (i : Int))) := by
    refine map_filter_same _ _ _ _ fun b hb => ?_
    by_cases h : 0 ≤ (trAt e b n).en
    · exact .inr (trAt_end e b h (Nat.le_succ n))
    · left
      have h1 : ¬ (trAt e b n).en = (i : Int) := by omega
      refine ⟨?_, by simp [h1]⟩
      have h2 : ¬ (trAt e b (n + 1)).en = (i : Int) := by
        rw [trAt]
        split
        · rw [stepT_en]
          split
          · omega
          · exact h1
        · exact h1
      simp [h2]
  unfold tries
  rw [begins_succ]
  split
  · rw [List.map_append, List.filter_append, key]
    have h0 : trAt e n (n + 1) = init n (e n) := trAt_init e n (n + 1) (Nat.le_refl _)
    simp [h0, init]
  · exact key

theorem commsD_succ (e : Evs) (n : Nat) : commsD e (n + 1) = commsD e n ++ (tries e (n + 1)).filter (fun t => t.co && decide (t.en = (n : Int))) := by
  unfold commsD
  rw [List.range_succ, List.flatMap_append]
  congr 1
  · have h : ∀ l : List Nat, (∀ i ∈ l, i < n) → l.flatMap (fun (i : Nat) => (tries e (n + 1)).filter (fun t => t.co && decide (t.en = (i : Int)))) = l.flatMap (fun (i : Nat) => (tries e n).filter (fun t => t.co && decide (t.en = (i : Int)))) := by
      intro l
      induction l with
      | nil => intro _; rfl
      | cons i l ih =>
        intro h
        rw [List.flatMap_cons, List.flatMap_cons, tries_at_end e n i (h i (by simp)), ih (fun x hx => h x (List.mem_cons_of_mem _ hx))]
    exact h _ (fun i hi => List.mem_range.1 hi)
  · simp
theorem commsD_pre (e : Evs) (m : Nat) : ∀ j, ∃ R, commsD e (m + j) = commsD e m ++ R
  | 0 => ⟨[], by simp⟩
  | j + 1 => by
    obtain ⟨R, h⟩ := commsD_pre e m j
    exact ⟨R ++ _, by rw [← Nat.add_assoc, commsD_succ, h, List.append_assoc]⟩
theorem cacs_pre (e : Evs) {m n : Nat} (hr : right e n = true) (hm : m ≤ n) : ∃ R, cacs e n = cacs e m ++ R := by
  obtain ⟨R, h⟩ := commsD_pre e m (n - m)
  rw [show m + (n - m) = n by omega] at h
  exact ⟨R.map Tr.ac, by unfold cacs; rw [if_pos hr, if_pos (right_le e hr m hm), h, List.map_append]⟩
theorem cacs_before (e : Evs) {n : Nat} (hr : right e n = true) : (cacs e n).length = before e n := by
  unfold cacs
  rw [if_pos hr, List.length_map, (commsD_perm e hr).length_eq, comms_before e hr]
theorem cacs_len (e : Evs) (n : Nat) : (cacs e n).length ≤ n := by
  unfold cacs
  split
  · next hr =>
    rw [List.length_map, (commsD_perm e hr).length_eq]
    exact Nat.le_trans (List.length_filter_le _ _) (tries_n' e n)
  · exact Nat.zero_le _

/-- m lists of n numbers lie there, wherever. -/
def StsAt (w : World) (a : Option Addr) (m n : Nat) (F : Nat → Nat → Int) : Prop :=
  m = 0 ∨ ∃ b off, a = some ⟨b, off, none⟩ ∧ b < w.heap.size ∧ ∀ i, i < m → ∃ ai ci, w.cell? ⟨b, off + i, none⟩ = some (.slice ai n ci) ∧ IsNums .i64 w ai n (F i)
theorem StsAt.keep {w w' : World} {a : Option Addr} {m n : Nat} {F : Nat → Nat → Int} (h : StsAt w a m n F) (g : ∀ k, k < w.heap.size → w'.heap[k]? = w.heap[k]?) (hs : w.heap.size ≤ w'.heap.size) : StsAt w' a m n F := by
  rcases h with h | ⟨b, off, h1, h2, h3⟩
  · exact .inl h
  · refine .inr ⟨b, off, h1, by omega, fun i hi => ?_⟩
    obtain ⟨ai, ci, h4, h5⟩ := h3 i hi
    exact ⟨ai, ci, (World.cell?_of_block (g b h2)).trans h4, h5.keep (fun k _ _ hk => g k hk) hs⟩
theorem StsAt.grown {w w' : World} {a : Option Addr} {m n : Nat} {F : Nat → Nat → Int} (h : StsAt w a m n F) (g : w.grownBy w' none) : StsAt w' a m n F := h.keep (fun k hk => g.block k hk (by simp)) g.size
theorem StsAt.below {w w' : World} {a : Option Addr} {m n : Nat} {F : Nat → Nat → Int} (h : StsAt w a m n F) (g : Below w.heap.size w w') : StsAt w' a m n F := h.keep (fun k hk => g.block k hk) g.size
theorem StsAt.less {w : World} {a : Option Addr} {m n k : Nat} {F : Nat → Nat → Int} (h : StsAt w a m n F) (hk : k ≤ m) : StsAt w a k n F := by
  rcases h with h | ⟨b, off, h1, h2, h3⟩
  · exact .inl (by omega)
  · exact .inr ⟨b, off, h1, h2, fun i hi => h3 i (by omega)⟩
theorem StsAt.congr {w : World} {a : Option Addr} {m n : Nat} {F G : Nat → Nat → Int} (h : StsAt w a m n F) (e : ∀ i, i < m → F i = G i) : StsAt w a m n G := by
  rcases h with h | ⟨b, off, h1, h2, h3⟩
  · exact .inl h
  · refine .inr ⟨b, off, h1, h2, fun i hi => ?_⟩
    rw [← e i hi]
    exact h3 i hi
theorem StsAt.at {w : World} {a : Option Addr} {m n i : Nat} {F : Nat → Nat → Int} (h : StsAt w a m n F) (hi : i < m) : ∃ b off ai ci, a = some ⟨b, off, none⟩ ∧ b < w.heap.size ∧ w.cell? ⟨b, off + i, none⟩ = some (.slice ai n ci) ∧ IsNums .i64 w ai n (F i) := by
  rcases h with h | ⟨b, off, h1, h2, h3⟩
  · omega
  · obtain ⟨ai, ci, h4, h5⟩ := h3 i hi
    exact ⟨b, off, ai, ci, h1, h2, h4, h5⟩
theorem StsAt.of_rows {w : World} {B B' : Nat} {a : Option Addr} {c n : Nat} {us : List Value} {F : Nat → Nat → Int} (h : w.ownsRow B 22 1 (.slice a us.length c) us.length us) (hu : ∀ i u, us[i]? = some u → RowAt w B' n (F i) u) : StsAt w a us.length n F := by
  rcases h.2 with ⟨_, h0⟩ | ⟨g, cap, cur, e, hb, hg, _⟩
  · exact .inl h0
  · injection e with e1 e2 e3
    subst e1
    refine .inr ⟨g, 0, rfl, lt_of_block hg, fun i hi => ?_⟩
    obtain ⟨ai, ci, h1, h2⟩ := hu i us[i] (List.getElem?_eq_getElem hi)
    refine ⟨ai, ci, ?_, ?_⟩
    · rw [Nat.zero_add, ← h1, ← List.getElem?_eq_getElem hi]
      exact h.cellAt i (by omega)
    · rw [h1] at h2
      exact IsNums.of_own h2

set_option maxHeartbeats 1000000 in
theorem sts_same (a b : Option Addr) (m n ca cb : Nat) (F : Nat → Nat → Int) (w : World) (ha : StsAt w a m n F) (hb : StsAt w b m n F) (hm : m ≤ 100000) (hn : n ≤ 100000) :
    Calls Try.prog 12 #[.slice a m ca, .slice b m cb] w fun e w' => e = .returned (.bool true) ∧ Hid (w.grownBy w' none) := by
  have HA := Lib.hid ha
  have HB := Lib.hid hb
  clear ha hb
  go_enter Try.func12, Try.ntmps12
  go_wp2
  go_loopw [5] (fun i wr => ∃ k : Nat, k ≤ m ∧ i = .int .i64 k ∧ Hid (w.grownBy wr none)) (fun i _ => (m - intOf i).toNat)
  case atStart => exact ⟨0, by omega, rfl, gb_refl _ _⟩
  case round =>
    obtain ⟨k, hk, rfl, G⟩ := hrel
    by_cases hlt : k < m
    · obtain ⟨b1, o1, a1, c1, rfl, hb1, d1, N1⟩ := (HA.out.grown G.out).at hlt
      obtain ⟨b2, o2, a2, c2, rfl, hb2, d2, N2⟩ := (HB.out.grown G.out).at hlt
      have hlt' : (k : Int) < (m : Int) := by omega
      have M1 := Lib.hid N1
      have M2 := Lib.hid N2
      clear N1 N2
      go_wp2_with fail
      go_region_held3 (fun w' => w'.cell? ⟨b1, o1 + k, none⟩ = some (.slice a1 n c1) ∧ w'.cell? ⟨b2, o2 + k, none⟩ = some (.slice a2 n c2)) (go_keep) ((go_at_call 13; refine (vals_yes _ _ n _ _ (F k) _ (M1.out.grown (gb_drew (gb_refl _ _))) (M2.out.grown (gb_drew (gb_refl _ _))) hn).mono ?_; rintro r u3 ⟨rfl, g3⟩; have x1 := g3.out.cell d1 (by simp); have x2 := g3.out.cell d2 (by simp)))
      go_wp2
      go_roundw
      case rel => exact ⟨k + 1, by omega, by go_num, gb_trans (gb_drew G.out) g3.out⟩
      case measure => simp [intOf]; omega
    · obtain rfl : k = m := by omega
      go_wp2
      go_ret
      exact ⟨rfl, G⟩
end Go.Proofs.Ytdohepenmejcaaa.md

/- The document's own answers of chapter 18: Apply, Fits. -/
namespace Go.Proofs.Ytdohepenmejcaaa.md
open Go Go.RowKit Go.Proofs.Ytdohepenmejcaaa.base Go.Proofs.Ytdohepenmejcaaa.hs Go.Proofs.Ytdohepenmejcaaa.lg Go.Maps
set_option linter.unusedVariables false
set_option maxRecDepth 100000

set_option maxHeartbeats 2000000 in
theorem refapply_any (a : Option Addr) (n c : Nat) (z : Nat → Int) (t : Tr) (av : Option Addr) (vc : Nat) (w : World) (hz : IsNums .i64 w a n z) (hl : IsL accC w av t.ac) (hn : n ≤ 100000) (hm : t.ac.length ≤ 100000) :
    Calls Try.prog 17 #[.slice a n c, .agg ⟨trC t (.slice av t.ac.length vc)⟩] w fun r w' => ∃ a' c', r = .returned (.slice a' n c') ∧ Hid (w'.ownsRow w.heap.size 2 1 (.slice a' n c') n (vals (app z t.ac) n)) ∧ Hid (w.grownBy w' none) := by
  have HZ := Lib.hid hz
  have HL := Lib.hid hl
  clear hz hl
  have BT := Lib.hid (Blk.made w 36 #[.int .i64 t.th, .int .i64 t.tx, .int .i64 t.at_, .int .i64 t.st, .int .i64 t.b, .int .i64 t.en, .int .i64 t.re, .bool t.co, .slice av t.ac.length vc])
  have GA := Lib.hid (World.grownBy_alloc w (.cells #[.int .i64 t.th, .int .i64 t.tx, .int .i64 t.at_, .int .i64 t.st, .int .i64 t.b, .int .i64 t.en, .int .i64 t.re, .bool t.co, .slice av t.ac.length vc] 36) none)
  show Calls Try.prog 17 #[.slice a n c, .agg #[.int .i64 t.th, .int .i64 t.tx, .int .i64 t.at_, .int .i64 t.st, .int .i64 t.b, .int .i64 t.en, .int .i64 t.re, .bool t.co, .slice av t.ac.length vc]] w _
  go_enter Try.func17, Try.ntmps17
  go_wp2
  generalize w.alloc _ = w1 at *
  generalize hbt : w.heap.size = bt at *
  go_loopw [5, 6] (fun ov iv wr => ∃ (o : Nat) (b : Option Addr) (k : Nat), o ≤ n ∧ iv = .int .i64 o ∧ ov = .slice b o k ∧ Hid (wr.ownsRow w1.heap.size 2 1 (.slice b o k) o (vals (app z t.ac) o)) ∧ Hid (w1.grownBy wr none)) (fun _ iv _ => (n - intOf iv).toNat)
  case atStart => exact ⟨0, none, 0, by omega, rfl, rfl, World.ownsRow_nil _ _ _ _, gb_refl _ _⟩
  case round =>
    obtain ⟨o, b, kc, ho, rfl, rfl, HR, G⟩ := hrel
    have B1 := Lib.hid (BT.out.grown G.out (by simp))
    have hbl := B1.out.lt
    by_cases hlt : o < n
    · have hlt' : (o : Int) < (n : Int) := by omega
      have ho6 : (o : Int) < 1000000 := by omega
      obtain ⟨zb, zo, rfl, hzb, cz⟩ := ((HZ.out.grown GA.out).grown G.out).at1 hlt
      have q8 := B1.out.at 8 rfl
      go_wp2
      go_loopw [7, 8] (fun vv iv wq => ∃ k : Nat, k ≤ t.ac.length ∧ iv = .int .i64 k ∧ vv = .int .i64 (app z (t.ac.take k) o) ∧ Hid (wr.grownBy wq none)) (fun _ iv _ => (t.ac.length - intOf iv).toNat)
      case atStart => exact ⟨0, by omega, rfl, rfl, gb_refl _ _⟩
      case round =>
        clear q8
        obtain ⟨k, hk, rfl, rfl, GQ⟩ := hrel
        have B2 := Lib.hid (B1.out.grown GQ.out (by simp))
        have hbl2 := B2.out.lt
        have q8 := B2.out.at 8 rfl
        by_cases hkl : k < t.ac.length
        · have hkl' : (k : Int) < (t.ac.length : Int) := by omega
          have hk6 : (k : Int) < 1000000 := by omega
          have hgk := List.getElem?_eq_getElem hkl
          obtain ⟨b1, o1, rfl, hb1, c0, c1, c2, c3, c4, c5⟩ := acc6 (((HL.out.grown GA.out).grown G.out).grown GQ.out) hgk
          have HT := Lib.hid (app_take z hgk)
          generalize t.ac[k] = y at *
          clear hgk
          by_cases h3 : y.k = 3
          · have f3 : (y.k == 3) = true := by simp [h3]
            by_cases h4 : y.ob = (o : Int)
            · have f4 : (y.ob == (o : Int)) = true := by simp [h4]
              have HN := Lib.hid (show app z (t.ac.take (k + 1)) o = y.va by rw [HT.out]; unfold app1; rw [if_pos ⟨h3, h4⟩])
              clear h3 h4
              go_wp2
              go_roundw
              case rel => exact ⟨k + 1, by omega, by go_num, by rw [HN.out], GQ⟩
              case measure => simp [intOf]; omega
            · have f4 : (y.ob == (o : Int)) = false := by simp [h4]
              have HN := Lib.hid (show app z (t.ac.take (k + 1)) o = app z (t.ac.take k) o by rw [HT.out]; unfold app1; rw [if_neg (fun h => h4 h.2)])
              clear h3 h4
              generalize app z (t.ac.take k) o = v at *
              go_wp2
              go_roundw
              case rel => exact ⟨k + 1, by omega, by go_num, by rw [HN.out], GQ⟩
              case measure => simp [intOf]; omega
          · have f3 : (y.k == 3) = false := by simp [h3]
            have HN := Lib.hid (show app z (t.ac.take (k + 1)) o = app z (t.ac.take k) o by rw [HT.out]; unfold app1; rw [if_neg (fun h => h3 h.1)])
            clear h3
            generalize app z (t.ac.take k) o = v at *
            go_wp2
            go_roundw
            case rel => exact ⟨k + 1, by omega, by go_num, by rw [HN.out], GQ⟩
            case measure => simp [intOf]; omega
        · obtain rfl : k = t.ac.length := by omega
          have HRQ := Lib.hid (ownsRow_keep HR.out (fun k e => GQ.out.block k (HR.out.lt k e).2 (by simp)))
          have G2 := Lib.hid (gb_trans G.out GQ.out)
          have HV := Lib.hid (show app z (t.ac.take t.ac.length) o = app z t.ac o by rw [app_all])
          generalize app z (t.ac.take t.ac.length) o = v at *
          have hsz : w1.heap.size ≤ wr.heap.size := Nat.le_trans G.out.size GQ.out.size
          go_wp2_with (at_builtin; go_loud (refine append64 _ rfl (.tmp 49) (.tmp 51) rfl w1.heap.size _ o (vals (app z t.ac) o) rfl (HRQ.out.alloc _) (some ⟨wr.heap.size, 0, none⟩) 1 1 [.int .i64 v] rfl rfl (new_src wr [.int .i64 v] 2 _ rfl) (by intro u hu; simp at hu; subst hu; rfl) (by omega) (by simp; omega) ?_); intro b' c' u2 ho2 hg2 hv2)
          go_roundw
          case rel =>
            refine ⟨o + 1, b', c', by omega, by go_num, rfl, ?_, gb_overO (gb_trans G2.out (World.grownBy_alloc wr _ none)) hg2 (fun i e => (HR.out.lt i e).1)⟩
            · show World.ownsRow _ _ _ _ _ _ _
              rw [vals_succ, ← HV.out]
              exact ho2
          case measure => simp [intOf]; omega
    · obtain rfl : o = n := by omega
      go_wp2
      go_ret
      subst hbt
      exact ⟨b, kc, rfl, ownsRow_drop HR.out (by have := GA.out.size; omega), gb_trans GA.out G.out⟩
end Go.Proofs.Ytdohepenmejcaaa.md

/- A piece of a function's code, by its path (of a sequence 0 and 1, of a test 0 and 1, of a block or a loop 0). -/
namespace Go.Proofs.Ytdohepenmejcaaa.base
open Go

def pc : List Nat → Code → Code
  | [], c => c
  | 0 :: p, .seq a _ => pc p a
  | _ :: p, .seq _ b => pc p b
  | 0 :: p, .cond _ a _ => pc p a
  | _ :: p, .cond _ _ b => pc p b
  | _ :: p, .block _ b => pc p b
  | _ :: p, .loop b => pc p b
  | _ :: p, .scope b => pc p b
  | _ :: _, c => c
def pcs (f : Func) (p : List Nat) : Code := pc p (f.body.getD .skip)
end Go.Proofs.Ytdohepenmejcaaa.base

/- The document's Tries: region 6. A theorem of its own over that piece of the code. -/
namespace Go.Proofs.Ytdohepenmejcaaa.hs
open Go Go.RowKit Go.Proofs.Ytdohepenmejcaaa.base Go.Maps
set_option linter.unusedVariables false
set_option maxRecDepth 100000

set_option maxHeartbeats 4000000 in
theorem piece6 (w : World) (eb off len cap : Nat) (e : Evs) (i : Nat) (hl : IsEvs w (some ⟨eb, off, none⟩) len e) (hlt : i < len) (hlen : len ≤ 10000) {v1 v2 v3 v5 v6 v7 v8 v9 v10 v11 v12 v13 v14 v15 v16 v17 v18 v19 v20 v21 v22 v23 v24 v25 v26 v27 v28 v29 v30 v31 v32 v33 v34 v35 v36 v37 v38 v39 v40 v41 v42 v43 v44 v45 v46 v47 v48 v49 v50 v51 v52 v53 v54 v55 v56 v57 v58 v59 v60 v61 v62 v63 v64 v65 v66 v67 v68 v69 v70 v71 v72 v73 v74 v75 v76 v77 v78 v79 v80 v81 v82 v83 v84 v85 v86 v87 v88 v89 v90 v91 v92 v93 v94 v95 v96 v97 v98 v99 v100 v101 v102 v103 v104 v105 v106 v107 v108 v109 v110 v111 v112 v113 v114 v115 v116 v117 v118 v119 v120 v121 v122 v123 v124 v125 v126 v127 v128 v129 v130 v131 v132 v133 v134 v135 v136 v137 v138 v139 v140 v141 v142 v143 v144 v145 v146 v147 v148 v149 v150 v151 v152 v153 v154 v155 v156 v157 v158 v159 v160 v161 v162 v163 v164 v165 v166 v167 v168 v169 v170 v171 : Value} {Q : Exit → Act → World → Prop}
    (hJ : Hid (∀ (u23 u24 u25 u26 u27 u28 u29 u30 u31 u32 u33 u34 u35 u36 u37 u38 u39 u40 u41 u42 u43 u44 : Value), Q Exit.normal { tmps := #[.slice (some ⟨eb, off, none⟩) len cap, v1, v2, v3, .int .i64 i, .pointer (some ⟨w.heap.size, 0, none⟩), v6, v7, v8, v9, v10, v11, v12, v13, v14, v15, v16, v17, v18, v19, v20, v21, v22, u23, u24, u25, u26, u27, u28, u29, u30, u31, u32, u33, u34, u35, u36, u37, u38, u39, u40, u41, u42, u43, u44, v45, v46, v47, v48, v49, v50, v51, v52, v53, v54, v55, v56, v57, v58, v59, v60, v61, v62, v63, v64, v65, v66, v67, v68, v69, v70, v71, v72, v73, v74, v75, v76, v77, v78, v79, v80, v81, v82, v83, v84, v85, v86, v87, v88, v89, v90, v91, v92, v93, v94, v95, v96, v97, v98, v99, v100, v101, v102, v103, v104, v105, v106, v107, v108, v109, v110, v111, v112, v113, v114, v115, v116, v117, v118, v119, v120, v121, v122, v123, v124, v125, v126, v127, v128, v129, v130, v131, v132, v133, v134, v135, v136, v137, v138, v139, v140, v141, v142, v143, v144, v145, v146, v147, v148, v149, v150, v151, v152, v153, v154, v155, v156, v157, v158, v159, v160, v161, v162, v163, v164, v165, v166, v167, v168, v169, v170, v171], defers := [] } (w.alloc (.cells #[.int .i64 ((e i).th), .int .i64 ((e i).tx), .int .i64 ((e i).at_), .int .i64 ((e i).va), .int .i64 i, .int .i64 (-1), .int .i64 0, .bool false, .slice none 0 0] 36)).drew)) :
    Code.wp Try.prog (pcs Try.f42 [1, 1, 0, 1, 0, 0, 1, 0, 0, 1, 0]) (Q) { tmps := #[.slice (some ⟨eb, off, none⟩) len cap, v1, v2, v3, .int .i64 i, v5, v6, v7, v8, v9, v10, v11, v12, v13, v14, v15, v16, v17, v18, v19, v20, v21, v22, v23, v24, v25, v26, v27, v28, v29, v30, v31, v32, v33, v34, v35, v36, v37, v38, v39, v40, v41, v42, v43, v44, v45, v46, v47, v48, v49, v50, v51, v52, v53, v54, v55, v56, v57, v58, v59, v60, v61, v62, v63, v64, v65, v66, v67, v68, v69, v70, v71, v72, v73, v74, v75, v76, v77, v78, v79, v80, v81, v82, v83, v84, v85, v86, v87, v88, v89, v90, v91, v92, v93, v94, v95, v96, v97, v98, v99, v100, v101, v102, v103, v104, v105, v106, v107, v108, v109, v110, v111, v112, v113, v114, v115, v116, v117, v118, v119, v120, v121, v122, v123, v124, v125, v126, v127, v128, v129, v130, v131, v132, v133, v134, v135, v136, v137, v138, v139, v140, v141, v142, v143, v144, v145, v146, v147, v148, v149, v150, v151, v152, v153, v154, v155, v156, v157, v158, v159, v160, v161, v162, v163, v164, v165, v166, v167, v168, v169, v170, v171], defers := [] } w := by
  dsimp only
  conv => arg 2; whnf
  obtain ⟨c0, c1, c2, c3, c4, c5, c6⟩ := evsIn hl hlt
  have heb : eb < w.heap.size := World.block_lt_of_cell? w _ c0
  have hlt' : (i : Int) < (len : Int) := by omega
  have hil : (i : Int) < 1000000 := by omega
  clear hl
  refine wp_region_noPanic ?_
  go_region
  refine NoPanic.normal ?_
  exact hJ.out _ _ _ _ _ _ _ _ _ _ _ _ _ _ _ _ _ _ _ _ _ _
end Go.Proofs.Ytdohepenmejcaaa.hs

/- The document's Tries: region 11. A theorem of its own over that piece of the code. -/
namespace Go.Proofs.Ytdohepenmejcaaa.hs
open Go Go.RowKit Go.Proofs.Ytdohepenmejcaaa.base Go.Maps
set_option linter.unusedVariables false
set_option maxRecDepth 100000

set_option maxHeartbeats 4000000 in
theorem piece11 (w : World) (eb off len cap : Nat) (i be : Nat) (x y : Ev) (q qn : Bool) (hq : ownE x y = q) (hqn : (!q) = qn) (hlt : i < len) (hlen : len ≤ 10000) (hx : Hid (w.cell? ⟨eb, off + i * 7, none⟩ = some (.int .i64 x.k) ∧ w.cell? ⟨eb, off + i * 7 + 1, none⟩ = some (.int .i64 x.th) ∧ w.cell? ⟨eb, off + i * 7 + 2, none⟩ = some (.int .i64 x.tx) ∧ w.cell? ⟨eb, off + i * 7 + 3, none⟩ = some (.int .i64 x.at_) ∧ w.cell? ⟨eb, off + i * 7 + 4, none⟩ = some (.int .i64 x.ob) ∧ w.cell? ⟨eb, off + i * 7 + 5, none⟩ = some (.int .i64 x.va) ∧ w.cell? ⟨eb, off + i * 7 + 6, none⟩ = some (.int .i64 x.re))) (hy : Hid (Blk 58 w be #[.int .i64 ((y).k), .int .i64 ((y).th), .int .i64 ((y).tx), .int .i64 ((y).at_), .int .i64 ((y).ob), .int .i64 ((y).va), .int .i64 ((y).re)])) {v1 v2 v3 v5 v6 v8 v9 v10 v11 v12 v13 v14 v15 v16 v17 v18 v19 v20 v21 v22 v23 v24 v25 v26 v27 v28 v29 v30 v31 v32 v33 v34 v35 v36 v37 v38 v39 v40 v41 v42 v43 v44 v45 v46 v47 v48 v49 v50 v51 v52 v53 v54 v55 v56 v57 v58 v59 v60 v61 v62 v63 v64 v65 v66 v67 v68 v69 v70 v71 v72 v73 v74 v75 v76 v77 v78 v79 v80 v81 v82 v83 v84 v85 v86 v87 v88 v89 v90 v91 v92 v93 v94 v95 v96 v97 v98 v99 v100 v101 v102 v103 v104 v105 v106 v107 v108 v109 v110 v111 v112 v113 v114 v115 v116 v117 v118 v119 v120 v121 v122 v123 v124 v125 v126 v127 v128 v129 v130 v131 v132 v133 v134 v135 v136 v137 v138 v139 v140 v141 v142 v143 v144 v145 v146 v147 v148 v149 v150 v151 v152 v153 v154 v155 v156 v157 v158 v159 v160 v161 v162 v163 v164 v165 v166 v167 v168 v169 v170 v171 : Value} {Q : Exit → Act → World → Prop}
    (hJ : ∀ (u62 u63 u64 u65 u66 u67 : Value) (w' : World), Hid (w.grownBy w' none) → Q Exit.normal { tmps := #[.slice (some ⟨eb, off, none⟩) len cap, v1, v2, v3, .int .i64 i, v5, v6, .pointer (some ⟨be, 0, none⟩), v8, v9, v10, v11, v12, v13, v14, v15, v16, v17, v18, v19, v20, v21, v22, v23, v24, v25, v26, v27, v28, v29, v30, v31, v32, v33, v34, v35, v36, v37, v38, v39, v40, v41, v42, v43, v44, v45, v46, v47, v48, v49, v50, v51, v52, v53, v54, v55, v56, v57, v58, v59, v60, v61, u62, u63, u64, u65, u66, u67, .bool qn, v69, v70, v71, v72, v73, v74, v75, v76, v77, v78, v79, v80, v81, v82, v83, v84, v85, v86, v87, v88, v89, v90, v91, v92, v93, v94, v95, v96, v97, v98, v99, v100, v101, v102, v103, v104, v105, v106, v107, v108, v109, v110, v111, v112, v113, v114, v115, v116, v117, v118, v119, v120, v121, v122, v123, v124, v125, v126, v127, v128, v129, v130, v131, v132, v133, v134, v135, v136, v137, v138, v139, v140, v141, v142, v143, v144, v145, v146, v147, v148, v149, v150, v151, v152, v153, v154, v155, v156, v157, v158, v159, v160, v161, v162, v163, v164, v165, v166, v167, v168, v169, v170, v171], defers := [] } w') :
    Code.wp Try.prog (pcs Try.f42 [1, 1, 0, 1, 0, 0, 1, 0, 0, 1, 1, 0, 1, 0, 0, 1, 0, 0, 1, 0, 0]) (Q) { tmps := #[.slice (some ⟨eb, off, none⟩) len cap, v1, v2, v3, .int .i64 i, v5, v6, .pointer (some ⟨be, 0, none⟩), v8, v9, v10, v11, v12, v13, v14, v15, v16, v17, v18, v19, v20, v21, v22, v23, v24, v25, v26, v27, v28, v29, v30, v31, v32, v33, v34, v35, v36, v37, v38, v39, v40, v41, v42, v43, v44, v45, v46, v47, v48, v49, v50, v51, v52, v53, v54, v55, v56, v57, v58, v59, v60, v61, v62, v63, v64, v65, v66, v67, v68, v69, v70, v71, v72, v73, v74, v75, v76, v77, v78, v79, v80, v81, v82, v83, v84, v85, v86, v87, v88, v89, v90, v91, v92, v93, v94, v95, v96, v97, v98, v99, v100, v101, v102, v103, v104, v105, v106, v107, v108, v109, v110, v111, v112, v113, v114, v115, v116, v117, v118, v119, v120, v121, v122, v123, v124, v125, v126, v127, v128, v129, v130, v131, v132, v133, v134, v135, v136, v137, v138, v139, v140, v141, v142, v143, v144, v145, v146, v147, v148, v149, v150, v151, v152, v153, v154, v155, v156, v157, v158, v159, v160, v161, v162, v163, v164, v165, v166, v167, v168, v169, v170, v171], defers := [] } w := by
  dsimp only
  conv => arg 2; whnf
  obtain ⟨d0, d1, d2, d3, d4, d5, d6⟩ := hx.out
  have y0 := hy.out.at 0 rfl; have y1 := hy.out.at 1 rfl; have y2 := hy.out.at 2 rfl; have y3 := hy.out.at 3 rfl; have y4 := hy.out.at 4 rfl; have y5 := hy.out.at 5 rfl; have y6 := hy.out.at 6 rfl
  have hlt' : (i : Int) < (len : Int) := by omega
  have hil : (i : Int) < 1000000 := by omega
  have OW := Lib.hid (own_any x y)
  rw [hq] at OW
  subst hqn
  clear hq
  clear hx
  go_region_held3 (fun w' => w'.cell? ⟨eb, off + i * 7, none⟩ = some (.int .i64 x.k) ∧ w'.cell? ⟨eb, off + i * 7 + 1, none⟩ = some (.int .i64 x.th) ∧ w'.cell? ⟨eb, off + i * 7 + 2, none⟩ = some (.int .i64 x.tx) ∧ w'.cell? ⟨eb, off + i * 7 + 3, none⟩ = some (.int .i64 x.at_) ∧ w'.cell? ⟨eb, off + i * 7 + 4, none⟩ = some (.int .i64 x.ob) ∧ w'.cell? ⟨eb, off + i * 7 + 5, none⟩ = some (.int .i64 x.va) ∧ w'.cell? ⟨eb, off + i * 7 + 6, none⟩ = some (.int .i64 x.re) ∧ w'.cell? ⟨be, 0, none⟩ = some (.int .i64 y.k) ∧ w'.cell? ⟨be, 1, none⟩ = some (.int .i64 y.th) ∧ w'.cell? ⟨be, 2, none⟩ = some (.int .i64 y.tx) ∧ w'.cell? ⟨be, 3, none⟩ = some (.int .i64 y.at_) ∧ w'.cell? ⟨be, 4, none⟩ = some (.int .i64 y.ob) ∧ w'.cell? ⟨be, 5, none⟩ = some (.int .i64 y.va) ∧ w'.cell? ⟨be, 6, none⟩ = some (.int .i64 y.re)) (go_keep) ((go_at_call 41; refine (OW.out _).mono ?_; rintro r u3 ⟨rfl, g3⟩; have m0 := g3.out.cell d0 (by simp); have m1 := g3.out.cell d1 (by simp); have m2 := g3.out.cell d2 (by simp); have m3 := g3.out.cell d3 (by simp); have m4 := g3.out.cell d4 (by simp); have m5 := g3.out.cell d5 (by simp); have m6 := g3.out.cell d6 (by simp); have n0 := g3.out.cell y0 (by simp); have n1 := g3.out.cell y1 (by simp); have n2 := g3.out.cell y2 (by simp); have n3 := g3.out.cell y3 (by simp); have n4 := g3.out.cell y4 (by simp); have n5 := g3.out.cell y5 (by simp); have n6 := g3.out.cell y6 (by simp)))
  exact hJ _ _ _ _ _ _ _ (gb_trans (gb_drew (gb_refl w _)) g3.out)
end Go.Proofs.Ytdohepenmejcaaa.hs

/- The document's Tries: loop 3: is it own?. A theorem of its own over that piece of the code. -/
namespace Go.Proofs.Ytdohepenmejcaaa.hs
open Go Go.RowKit Go.Proofs.Ytdohepenmejcaaa.base Go.Maps
set_option linter.unusedVariables false
set_option maxRecDepth 100000

set_option maxHeartbeats 4000000 in
theorem piece3 (w : World) (u0 : World) (bt be ba k : Nat) (T : Tr) (y : Ev) (va : Option Addr) (vc : Nat) (L2 : Blks) (b2 : Bool) (hb2 : (y.k == 2) = b2) (hac : T.ac.length ≤ 10000) (HRA : Hid (Row accC 6 65 T.ac (.slice va T.ac.length vc) L2)) (HO : Hid (base.Own u0 w ((ba, 65, [.int .i64 k, .int .i64 y.k, .int .i64 y.ob, .int .i64 y.va, .bool (false), .bool false]) :: (be, 58, [.int .i64 ((y).k), .int .i64 ((y).th), .int .i64 ((y).tx), .int .i64 ((y).at_), .int .i64 ((y).ob), .int .i64 ((y).va), .int .i64 ((y).re)]) :: (bt, 36, trC T (.slice va T.ac.length vc)) :: L2))) {v0 v1 v2 v3 v4 v6 v10 v11 v12 v13 v14 v15 v16 v17 v18 v19 v20 v21 v22 v23 v24 v25 v26 v27 v28 v29 v30 v31 v32 v33 v34 v35 v36 v37 v38 v39 v40 v41 v42 v43 v44 v45 v46 v47 v48 v49 v50 v51 v52 v53 v54 v55 v56 v57 v58 v59 v60 v61 v62 v63 v64 v65 v66 v67 v68 v69 v70 v71 v72 v73 v74 v75 v76 v77 v78 v79 v80 v81 v82 v83 v84 v85 v86 v87 v88 v89 v90 v91 v92 v93 v94 v95 v96 v97 v98 v99 v100 v101 v102 v103 v104 v105 v106 v107 v108 v109 v110 v111 v112 v113 v114 v115 v116 v117 v118 v119 v120 v121 v122 v123 v124 v125 v126 v127 v128 v129 v130 v131 v132 v133 v134 v135 v136 v137 v138 v139 v140 v141 v142 v143 v144 v145 v146 v147 v148 v149 v150 v151 v152 v153 v154 v155 v156 v157 v158 v159 v160 v161 v162 v163 v164 v165 v166 v167 v168 v169 v170 v171 : Value} {Q : Exit → Act → World → Prop}
    (hJ : ∀ (u9 u82 u83 u84 u85 u86 u87 u88 u89 u90 u91 u92 u93 u94 u95 u96 u97 u98 u99 u100 u101 u102 u103 u104 u105 u106 u107 u108 u109 u110 u111 u112 u113 u114 u115 u116 : Value) (w' : World), Hid (base.Own u0 w' ((ba, 65, [.int .i64 k, .int .i64 y.k, .int .i64 y.ob, .int .i64 y.va, .bool (b2 && wrote T.ac y.ob), .bool false]) :: (be, 58, [.int .i64 ((y).k), .int .i64 ((y).th), .int .i64 ((y).tx), .int .i64 ((y).at_), .int .i64 ((y).ob), .int .i64 ((y).va), .int .i64 ((y).re)]) :: (bt, 36, trC T (.slice va T.ac.length vc)) :: L2)) → Q Exit.normal { tmps := #[v0, v1, v2, v3, v4, .pointer (some ⟨bt, 0, none⟩), v6, .pointer (some ⟨be, 0, none⟩), .pointer (some ⟨ba, 0, none⟩), u9, v10, v11, v12, v13, v14, v15, v16, v17, v18, v19, v20, v21, v22, v23, v24, v25, v26, v27, v28, v29, v30, v31, v32, v33, v34, v35, v36, v37, v38, v39, v40, v41, v42, v43, v44, v45, v46, v47, v48, v49, v50, v51, v52, v53, v54, v55, v56, v57, v58, v59, v60, v61, v62, v63, v64, v65, v66, v67, v68, v69, v70, v71, v72, v73, v74, v75, v76, v77, v78, v79, v80, v81, u82, u83, u84, u85, u86, u87, u88, u89, u90, u91, u92, u93, u94, u95, u96, u97, u98, u99, u100, u101, u102, u103, u104, u105, u106, u107, u108, u109, u110, u111, u112, u113, u114, u115, u116, v117, v118, v119, v120, v121, v122, v123, v124, v125, v126, v127, v128, v129, v130, v131, v132, v133, v134, v135, v136, v137, v138, v139, v140, v141, v142, v143, v144, v145, v146, v147, v148, v149, v150, v151, v152, v153, v154, v155, v156, v157, v158, v159, v160, v161, v162, v163, v164, v165, v166, v167, v168, v169, v170, v171], defers := [] } w') :
    Code.wp Try.prog (pcs Try.f42 [1, 1, 0, 1, 0, 0, 1, 0, 0, 1, 1, 0, 1, 0, 0, 1, 0, 0, 1, 1, 1, 0, 1, 0, 1, 0, 1, 0]) (Exit.inBlock 5 Q) { tmps := #[v0, v1, v2, v3, v4, .pointer (some ⟨bt, 0, none⟩), v6, .pointer (some ⟨be, 0, none⟩), .pointer (some ⟨ba, 0, none⟩), .int .i64 0, v10, v11, v12, v13, v14, v15, v16, v17, v18, v19, v20, v21, v22, v23, v24, v25, v26, v27, v28, v29, v30, v31, v32, v33, v34, v35, v36, v37, v38, v39, v40, v41, v42, v43, v44, v45, v46, v47, v48, v49, v50, v51, v52, v53, v54, v55, v56, v57, v58, v59, v60, v61, v62, v63, v64, v65, v66, v67, v68, v69, v70, v71, v72, v73, v74, v75, v76, v77, v78, v79, v80, v81, v82, v83, v84, v85, v86, v87, v88, v89, v90, v91, v92, v93, v94, v95, v96, v97, v98, v99, v100, v101, v102, v103, v104, v105, v106, v107, v108, v109, v110, v111, v112, v113, v114, v115, v116, v117, v118, v119, v120, v121, v122, v123, v124, v125, v126, v127, v128, v129, v130, v131, v132, v133, v134, v135, v136, v137, v138, v139, v140, v141, v142, v143, v144, v145, v146, v147, v148, v149, v150, v151, v152, v153, v154, v155, v156, v157, v158, v159, v160, v161, v162, v163, v164, v165, v166, v167, v168, v169, v170, v171], defers := [] } w := by
  dsimp only
  conv => arg 2; whnf
  have HJ := Lib.hid hJ
  clear hJ
  have hk0 : T.ac.length < 1000000 := by omega
  cases b2 with
  | false =>
    go_loopw [9] (fun nv wr => ∃ n : Nat, n ≤ T.ac.length ∧ nv = .int .i64 n ∧ Hid (base.Own u0 wr ((ba, 65, [.int .i64 k, .int .i64 y.k, .int .i64 y.ob, .int .i64 y.va, .bool (false), .bool false]) :: (be, 58, [.int .i64 ((y).k), .int .i64 ((y).th), .int .i64 ((y).tx), .int .i64 ((y).at_), .int .i64 ((y).ob), .int .i64 ((y).va), .int .i64 ((y).re)]) :: (bt, 36, trC T (.slice va T.ac.length vc)) :: L2))) (fun nv _ => (T.ac.length - intOf nv).toNat)
    case atStart => exact ⟨0, by omega, rfl, HO⟩
    case round =>
      obtain ⟨n, hn, rfl, OR⟩ := hrel
      have x0 := OR.out.cell 0 0 rfl rfl; have x1 := OR.out.cell 0 1 rfl rfl; have x2 := OR.out.cell 0 2 rfl rfl; have x3 := OR.out.cell 0 3 rfl rfl; have x4 := OR.out.cell 0 4 rfl rfl; have x5 := OR.out.cell 0 5 rfl rfl; have y0 := OR.out.cell 1 0 rfl rfl; have y1 := OR.out.cell 1 1 rfl rfl; have y2 := OR.out.cell 1 2 rfl rfl; have y3 := OR.out.cell 1 3 rfl rfl; have y4 := OR.out.cell 1 4 rfl rfl; have y5 := OR.out.cell 1 5 rfl rfl; have y6 := OR.out.cell 1 6 rfl rfl; have t0 := OR.out.cell 2 0 rfl rfl; have t1 := OR.out.cell 2 1 rfl rfl; have t2 := OR.out.cell 2 2 rfl rfl; have t3 := OR.out.cell 2 3 rfl rfl; have t4 := OR.out.cell 2 4 rfl rfl; have t5 := OR.out.cell 2 5 rfl rfl; have t6 := OR.out.cell 2 6 rfl rfl; have t7 := OR.out.cell 2 7 rfl rfl; have t8 := OR.out.cell 2 8 rfl rfl
      have fx4 := OR.out.free 0 4 rfl
      by_cases hnl : n < T.ac.length
      · obtain ⟨a2, c2, hv2, HI⟩ := HRA.out.isL accC_len (own_flip (A := [_, _, _]) OR.out)
        cases hv2
        obtain ⟨gb, oo, rfl, hgb, z0, z1, z2, z3, z4, z5⟩ := accAt HI (List.getElem?_eq_getElem hnl)
        have WT := Lib.hid (wrote_take (List.getElem?_eq_getElem hnl) y.ob)
        generalize T.ac[n] = X at *
        have hnl' : (n : Int) < (T.ac.length : Int) := by omega
        have hn6 : (n : Int) < 1000000 := by omega
        go_wp2_with fail
        go_region
        have OZ := Lib.hid ((OR.out.set 0 4 (.bool false) rfl).drew)
        go_wp2
        go_roundw
        case rel => exact ⟨n + 1, by omega, by go_num, by show _; exact OZ.out⟩
        case measure => simp [intOf] <;> omega
      · obtain rfl : n = T.ac.length := by omega
        go_wp2
        exact HJ.out _ _ _ _ _ _ _ _ _ _ _ _ _ _ _ _ _ _ _ _ _ _ _ _ _ _ _ _ _ _ _ _ _ _ _ _ _ OR
  | true =>
    go_loopw [9] (fun nv wr => ∃ n : Nat, n ≤ T.ac.length ∧ nv = .int .i64 n ∧ Hid (base.Own u0 wr ((ba, 65, [.int .i64 k, .int .i64 y.k, .int .i64 y.ob, .int .i64 y.va, .bool (wrote (T.ac.take n) y.ob), .bool false]) :: (be, 58, [.int .i64 ((y).k), .int .i64 ((y).th), .int .i64 ((y).tx), .int .i64 ((y).at_), .int .i64 ((y).ob), .int .i64 ((y).va), .int .i64 ((y).re)]) :: (bt, 36, trC T (.slice va T.ac.length vc)) :: L2))) (fun nv _ => (T.ac.length - intOf nv).toNat)
    case atStart => exact ⟨0, by omega, rfl, HO⟩
    case round =>
      obtain ⟨n, hn, rfl, OR⟩ := hrel
      have x0 := OR.out.cell 0 0 rfl rfl; have x1 := OR.out.cell 0 1 rfl rfl; have x2 := OR.out.cell 0 2 rfl rfl; have x3 := OR.out.cell 0 3 rfl rfl; have x4 := OR.out.cell 0 4 rfl rfl; have x5 := OR.out.cell 0 5 rfl rfl; have y0 := OR.out.cell 1 0 rfl rfl; have y1 := OR.out.cell 1 1 rfl rfl; have y2 := OR.out.cell 1 2 rfl rfl; have y3 := OR.out.cell 1 3 rfl rfl; have y4 := OR.out.cell 1 4 rfl rfl; have y5 := OR.out.cell 1 5 rfl rfl; have y6 := OR.out.cell 1 6 rfl rfl; have t0 := OR.out.cell 2 0 rfl rfl; have t1 := OR.out.cell 2 1 rfl rfl; have t2 := OR.out.cell 2 2 rfl rfl; have t3 := OR.out.cell 2 3 rfl rfl; have t4 := OR.out.cell 2 4 rfl rfl; have t5 := OR.out.cell 2 5 rfl rfl; have t6 := OR.out.cell 2 6 rfl rfl; have t7 := OR.out.cell 2 7 rfl rfl; have t8 := OR.out.cell 2 8 rfl rfl
      have fx4 := OR.out.free 0 4 rfl
      by_cases hnl : n < T.ac.length
      · obtain ⟨a2, c2, hv2, HI⟩ := HRA.out.isL accC_len (own_flip (A := [_, _, _]) OR.out)
        cases hv2
        obtain ⟨gb, oo, rfl, hgb, z0, z1, z2, z3, z4, z5⟩ := accAt HI (List.getElem?_eq_getElem hnl)
        have WT := Lib.hid (wrote_take (List.getElem?_eq_getElem hnl) y.ob)
        generalize T.ac[n] = X at *
        have hnl' : (n : Int) < (T.ac.length : Int) := by omega
        have hn6 : (n : Int) < 1000000 := by omega
        obtain ⟨W0, hW0⟩ : ∃ W0, W0 = wrote (T.ac.take n) y.ob := ⟨_, rfl⟩
        rw [← hW0] at OR WT x4
        clear hW0
        cases W0 with
        | true =>
          have HW := Lib.hid (show wrote (T.ac.take (n + 1)) y.ob = true by rw [WT.out, Bool.true_or])
          go_wp2_with fail
          go_region
          have OZ := Lib.hid ((OR.out.set 0 4 (.bool true) rfl).drew)
          go_wp2
          go_roundw
          case rel => exact ⟨n + 1, by omega, by go_num, by rw [HW.out]; exact OZ.out⟩
          case measure => simp [intOf] <;> omega
        | false =>
          by_cases h3 : X.k = 3
          · have f3 : (X.k == 3) = true := by simp [h3]
            by_cases ho : X.ob = y.ob
            · have fo : (X.ob == y.ob) = true := by simp [ho]
              have HW := Lib.hid (show wrote (T.ac.take (n + 1)) y.ob = true by rw [WT.out]; simp [h3, ho])
              clear h3 ho WT
              go_wp2_with fail
              go_region
              have OZ := Lib.hid ((OR.out.set 0 4 (.bool true) rfl).drew)
              go_wp2
              go_roundw
              case rel => exact ⟨n + 1, by omega, by go_num, by rw [HW.out]; exact OZ.out⟩
              case measure => simp [intOf] <;> omega
            · have fo : (X.ob == y.ob) = false := by simp [ho]
              have HW := Lib.hid (show wrote (T.ac.take (n + 1)) y.ob = false by rw [WT.out]; simp [ho])
              clear h3 ho WT
              go_wp2_with fail
              go_region
              have OZ := Lib.hid ((OR.out.set 0 4 (.bool false) rfl).drew)
              go_wp2
              go_roundw
              case rel => exact ⟨n + 1, by omega, by go_num, by rw [HW.out]; exact OZ.out⟩
              case measure => simp [intOf] <;> omega
          · have f3 : (X.k == 3) = false := by simp [h3]
            have HW := Lib.hid (show wrote (T.ac.take (n + 1)) y.ob = false by rw [WT.out]; simp [h3])
            clear h3 WT
            go_wp2_with fail
            go_region
            have OZ := Lib.hid ((OR.out.set 0 4 (.bool false) rfl).drew)
            go_wp2
            go_roundw
            case rel => exact ⟨n + 1, by omega, by go_num, by rw [HW.out]; exact OZ.out⟩
            case measure => simp [intOf] <;> omega
      · obtain rfl : n = T.ac.length := by omega
        rw [wrote_all] at OR
        go_wp2
        exact HJ.out _ _ _ _ _ _ _ _ _ _ _ _ _ _ _ _ _ _ _ _ _ _ _ _ _ _ _ _ _ _ _ _ _ _ _ _ _ OR
end Go.Proofs.Ytdohepenmejcaaa.hs

/- The document's Tries: region 20. A theorem of its own over that piece of the code. -/
namespace Go.Proofs.Ytdohepenmejcaaa.hs
open Go Go.RowKit Go.Proofs.Ytdohepenmejcaaa.base Go.Maps
set_option linter.unusedVariables false
set_option maxRecDepth 100000

theorem infoAccD : (Try.prog.info? 65).map (fun i => (i.zero, i.size, i.bytes)) = some (some (.agg #[.int .i64 0, .int .i64 0, .int .i64 0, .int .i64 0, .bool false, .bool false]), 6, 40) := by kernel_rfl

set_option maxHeartbeats 4000000 in
theorem piece20 (w : World) (u0 : World) (bt be ba k : Nat) (T : Tr) (y : Ev) (o : Bool) (va : Option Addr) (vc : Nat) (L2 : Blks) (hac : T.ac.length ≤ 10000) (HRA : Hid (Row accC 6 65 T.ac (.slice va T.ac.length vc) L2)) (HO : Hid (base.Own u0 w ((ba, 65, [.int .i64 k, .int .i64 y.k, .int .i64 y.ob, .int .i64 y.va, .bool (o), .bool false]) :: (be, 58, [.int .i64 ((y).k), .int .i64 ((y).th), .int .i64 ((y).tx), .int .i64 ((y).at_), .int .i64 ((y).ob), .int .i64 ((y).va), .int .i64 ((y).re)]) :: (bt, 36, trC T (.slice va T.ac.length vc)) :: L2))) {v0 v1 v2 v3 v4 v6 v7 v9 v10 v11 v12 v13 v14 v15 v16 v17 v18 v19 v20 v21 v22 v23 v24 v25 v26 v27 v28 v29 v30 v31 v32 v33 v34 v35 v36 v37 v38 v39 v40 v41 v42 v43 v44 v45 v46 v47 v48 v49 v50 v51 v52 v53 v54 v55 v56 v57 v58 v59 v60 v61 v62 v63 v64 v65 v66 v67 v68 v69 v70 v71 v72 v73 v74 v75 v76 v77 v78 v79 v80 v81 v82 v83 v84 v85 v86 v87 v88 v89 v90 v91 v92 v93 v94 v95 v96 v97 v98 v99 v100 v101 v102 v103 v104 v105 v106 v107 v108 v109 v110 v111 v112 v113 v114 v115 v116 v117 v118 v119 v120 v121 v122 v123 v124 v125 v126 v127 v128 v129 v130 v131 v132 v133 v134 v135 v136 v137 v138 v139 v140 v141 v142 v143 v144 v145 v146 v147 v148 v149 v150 v151 v152 v153 v154 v155 v156 v157 v158 v159 v160 v161 v162 v163 v164 v165 v166 v167 v168 v169 v170 v171 : Value} {Q : Exit → Act → World → Prop}
    (hJ : ∀ (u117 u118 u119 u120 u121 u122 : Value) (g' c' : Nat) (L3 : Blks) (w' : World), Hid (Row accC 6 65 (T.ac ++ [(⟨k, y.k, y.ob, y.va, o, false⟩ : Acc)]) (.slice (some ⟨g', 0, none⟩) (T.ac.length + 1) c') L3) → Hid (base.Own u0 w' ((ba, 65, [.int .i64 k, .int .i64 y.k, .int .i64 y.ob, .int .i64 y.va, .bool (o), .bool false]) :: (be, 58, [.int .i64 ((y).k), .int .i64 ((y).th), .int .i64 ((y).tx), .int .i64 ((y).at_), .int .i64 ((y).ob), .int .i64 ((y).va), .int .i64 ((y).re)]) :: (bt, 36, trC T (.slice (some ⟨g', 0, none⟩) (T.ac.length + 1) c')) :: L3)) → Q Exit.normal { tmps := #[v0, v1, v2, v3, v4, .pointer (some ⟨bt, 0, none⟩), v6, v7, .pointer (some ⟨ba, 0, none⟩), v9, v10, v11, v12, v13, v14, v15, v16, v17, v18, v19, v20, v21, v22, v23, v24, v25, v26, v27, v28, v29, v30, v31, v32, v33, v34, v35, v36, v37, v38, v39, v40, v41, v42, v43, v44, v45, v46, v47, v48, v49, v50, v51, v52, v53, v54, v55, v56, v57, v58, v59, v60, v61, v62, v63, v64, v65, v66, v67, v68, v69, v70, v71, v72, v73, v74, v75, v76, v77, v78, v79, v80, v81, v82, v83, v84, v85, v86, v87, v88, v89, v90, v91, v92, v93, v94, v95, v96, v97, v98, v99, v100, v101, v102, v103, v104, v105, v106, v107, v108, v109, v110, v111, v112, v113, v114, v115, v116, u117, u118, u119, u120, u121, u122, v123, v124, v125, v126, v127, v128, v129, v130, v131, v132, v133, v134, v135, v136, v137, v138, v139, v140, v141, v142, v143, v144, v145, v146, v147, v148, v149, v150, v151, v152, v153, v154, v155, v156, v157, v158, v159, v160, v161, v162, v163, v164, v165, v166, v167, v168, v169, v170, v171], defers := [] } w') :
    Code.wp Try.prog (pcs Try.f42 [1, 1, 0, 1, 0, 0, 1, 0, 0, 1, 1, 0, 1, 0, 0, 1, 0, 0, 1, 1, 1, 0, 1, 0, 1, 1]) (Q) { tmps := #[v0, v1, v2, v3, v4, .pointer (some ⟨bt, 0, none⟩), v6, v7, .pointer (some ⟨ba, 0, none⟩), v9, v10, v11, v12, v13, v14, v15, v16, v17, v18, v19, v20, v21, v22, v23, v24, v25, v26, v27, v28, v29, v30, v31, v32, v33, v34, v35, v36, v37, v38, v39, v40, v41, v42, v43, v44, v45, v46, v47, v48, v49, v50, v51, v52, v53, v54, v55, v56, v57, v58, v59, v60, v61, v62, v63, v64, v65, v66, v67, v68, v69, v70, v71, v72, v73, v74, v75, v76, v77, v78, v79, v80, v81, v82, v83, v84, v85, v86, v87, v88, v89, v90, v91, v92, v93, v94, v95, v96, v97, v98, v99, v100, v101, v102, v103, v104, v105, v106, v107, v108, v109, v110, v111, v112, v113, v114, v115, v116, v117, v118, v119, v120, v121, v122, v123, v124, v125, v126, v127, v128, v129, v130, v131, v132, v133, v134, v135, v136, v137, v138, v139, v140, v141, v142, v143, v144, v145, v146, v147, v148, v149, v150, v151, v152, v153, v154, v155, v156, v157, v158, v159, v160, v161, v162, v163, v164, v165, v166, v167, v168, v169, v170, v171], defers := [] } w := by
  dsimp only
  conv => arg 2; whnf
  obtain ⟨i0, hi0, hz00, hz10, hz20⟩ := info_parts infoAccD
  have hi := Lib.hid hi0
  have hz0 := Lib.hid hz00
  have hz1 := Lib.hid hz10
  have hz2 := Lib.hid hz20
  clear hi0 hz00 hz10 hz20
  have x0 := HO.out.cell 0 0 rfl rfl; have x1 := HO.out.cell 0 1 rfl rfl; have x2 := HO.out.cell 0 2 rfl rfl; have x3 := HO.out.cell 0 3 rfl rfl; have x4 := HO.out.cell 0 4 rfl rfl; have x5 := HO.out.cell 0 5 rfl rfl; have t0 := HO.out.cell 2 0 rfl rfl; have t1 := HO.out.cell 2 1 rfl rfl; have t2 := HO.out.cell 2 2 rfl rfl; have t3 := HO.out.cell 2 3 rfl rfl; have t4 := HO.out.cell 2 4 rfl rfl; have t5 := HO.out.cell 2 5 rfl rfl; have t6 := HO.out.cell 2 6 rfl rfl; have t7 := HO.out.cell 2 7 rfl rfl; have t8 := HO.out.cell 2 8 rfl rfl
  have HOWN := Lib.hid (HRA.out.owns accC_len (own_flip (A := [_, _, _]) HO.out))
  have hb2 := HO.out.grow.size
  have hk0 : (T.ac.length : Int) < 1000000 := by omega
  go_wp2_with (first | (at_builtin; refine wpList_append_at _ rfl (.tmp 118) (.tmp 120) 34 rfl u0.heap.size 65 i0 (.agg #[.int .i64 0, .int .i64 0, .int .i64 0, .int .i64 0, .bool false, .bool false]) 6 40 Try.underlying34 hi.out hz0.out hz1.out hz2.out rfl (by decide) (.slice va T.ac.length vc) T.ac.length (rows accC T.ac) rfl (HOWN.out.alloc _) ⟨w.heap.size, 0, none⟩ 1 1 (accC (⟨k, y.k, y.ob, y.va, o, false⟩ : Acc)) rfl rfl (new_cells w _ _) (accC_one [(⟨k, y.k, y.ob, y.va, o, false⟩ : Acc)]) (by unfold maxLen; omega) (by omega) (by simp; omega) (by decide) ?_; intro g' c' w5 ho hg hv; obtain ⟨L3, r1, r2⟩ := base.Row.snoc (x := (⟨k, y.k, y.ob, y.va, o, false⟩ : Acc)) HRA.out (own_flip (A := [_, _, _]) HO.out) (World.grownBy_alloc w _ none) ho hg hv; have R1 := Lib.hid r1; have R2 := Lib.hid (own_flip (B := [_, _, _]) r2); have c8 := R2.out.cell 2 8 rfl rfl; have f8 := R2.out.free 2 8 rfl; clear ho hg hv r1 r2) | go_in)
  exact hJ _ _ _ _ _ _ g' c' L3 _ R1 (R2.out.set 2 8 (.slice (some ⟨g', 0, none⟩) (T.ac.length + 1) c') rfl)
end Go.Proofs.Ytdohepenmejcaaa.hs

/- The document's Tries: loop 4: what is released. A theorem of its own over that piece of the code. -/
namespace Go.Proofs.Ytdohepenmejcaaa.hs
open Go Go.RowKit Go.Proofs.Ytdohepenmejcaaa.base Go.Maps
set_option linter.unusedVariables false
set_option maxRecDepth 100000

set_option maxHeartbeats 4000000 in
theorem piece4 (w : World) (u0 : World) (bt be : Nat) (T : Tr) (y : Ev) (va : Option Addr) (vc : Nat) (L2 : Blks) (hac : T.ac.length ≤ 10000) (HRA : Hid (Row accC 6 65 T.ac (.slice va T.ac.length vc) L2)) (HO : Hid (base.Own u0 w ((be, 58, [.int .i64 ((y).k), .int .i64 ((y).th), .int .i64 ((y).tx), .int .i64 ((y).at_), .int .i64 ((y).ob), .int .i64 ((y).va), .int .i64 ((y).re)]) :: (bt, 36, trC T (.slice va T.ac.length vc)) :: L2))) {v0 v1 v2 v3 v4 v6 v8 v9 v11 v12 v13 v14 v15 v16 v17 v18 v19 v20 v21 v22 v23 v24 v25 v26 v27 v28 v29 v30 v31 v32 v33 v34 v35 v36 v37 v38 v39 v40 v41 v42 v43 v44 v45 v46 v47 v48 v49 v50 v51 v52 v53 v54 v55 v56 v57 v58 v59 v60 v61 v62 v63 v64 v65 v66 v67 v68 v69 v70 v71 v72 v73 v74 v75 v76 v77 v78 v79 v80 v81 v82 v83 v84 v85 v86 v87 v88 v89 v90 v91 v92 v93 v94 v95 v96 v97 v98 v99 v100 v101 v102 v103 v104 v105 v106 v107 v108 v109 v110 v111 v112 v113 v114 v115 v116 v117 v118 v119 v120 v121 v122 v123 v124 v125 v126 v127 v128 v129 v130 v131 v132 v133 v134 v135 v136 v137 v138 v139 v140 v141 v142 v143 v144 v145 v146 v147 v148 v149 v150 v151 v152 v153 v154 v155 v156 v157 v158 v159 v160 v161 v162 v163 v164 v165 v166 v167 v168 v169 v170 v171 : Value} {Q : Exit → Act → World → Prop}
    (hJ : ∀ (u10 u125 u126 u127 u128 u129 u130 u131 u132 u133 u134 u135 u136 u137 u138 u139 u140 u141 u142 u143 u144 u145 u146 u147 u148 u149 u150 u151 u152 u153 u154 : Value) (L4 : Blks) (w' : World), Hid (Row accC 6 65 (relAll T.ac y.ob) (.slice va T.ac.length vc) L4) → Hid (base.Own u0 w' ((be, 58, [.int .i64 ((y).k), .int .i64 ((y).th), .int .i64 ((y).tx), .int .i64 ((y).at_), .int .i64 ((y).ob), .int .i64 ((y).va), .int .i64 ((y).re)]) :: (bt, 36, trC T (.slice va T.ac.length vc)) :: L4)) → Q Exit.normal { tmps := #[v0, v1, v2, v3, v4, .pointer (some ⟨bt, 0, none⟩), v6, .pointer (some ⟨be, 0, none⟩), v8, v9, u10, v11, v12, v13, v14, v15, v16, v17, v18, v19, v20, v21, v22, v23, v24, v25, v26, v27, v28, v29, v30, v31, v32, v33, v34, v35, v36, v37, v38, v39, v40, v41, v42, v43, v44, v45, v46, v47, v48, v49, v50, v51, v52, v53, v54, v55, v56, v57, v58, v59, v60, v61, v62, v63, v64, v65, v66, v67, v68, v69, v70, v71, v72, v73, v74, v75, v76, v77, v78, v79, v80, v81, v82, v83, v84, v85, v86, v87, v88, v89, v90, v91, v92, v93, v94, v95, v96, v97, v98, v99, v100, v101, v102, v103, v104, v105, v106, v107, v108, v109, v110, v111, v112, v113, v114, v115, v116, v117, v118, v119, v120, v121, v122, v123, v124, u125, u126, u127, u128, u129, u130, u131, u132, u133, u134, u135, u136, u137, u138, u139, u140, u141, u142, u143, u144, u145, u146, u147, u148, u149, u150, u151, u152, u153, u154, v155, v156, v157, v158, v159, v160, v161, v162, v163, v164, v165, v166, v167, v168, v169, v170, v171], defers := [] } w') :
    Code.wp Try.prog (pcs Try.f42 [1, 1, 0, 1, 0, 0, 1, 0, 0, 1, 1, 0, 1, 0, 0, 1, 0, 0, 1, 1, 1, 0, 1, 1, 1, 0, 1, 0]) (Exit.inBlock 7 Q) { tmps := #[v0, v1, v2, v3, v4, .pointer (some ⟨bt, 0, none⟩), v6, .pointer (some ⟨be, 0, none⟩), v8, v9, .int .i64 0, v11, v12, v13, v14, v15, v16, v17, v18, v19, v20, v21, v22, v23, v24, v25, v26, v27, v28, v29, v30, v31, v32, v33, v34, v35, v36, v37, v38, v39, v40, v41, v42, v43, v44, v45, v46, v47, v48, v49, v50, v51, v52, v53, v54, v55, v56, v57, v58, v59, v60, v61, v62, v63, v64, v65, v66, v67, v68, v69, v70, v71, v72, v73, v74, v75, v76, v77, v78, v79, v80, v81, v82, v83, v84, v85, v86, v87, v88, v89, v90, v91, v92, v93, v94, v95, v96, v97, v98, v99, v100, v101, v102, v103, v104, v105, v106, v107, v108, v109, v110, v111, v112, v113, v114, v115, v116, v117, v118, v119, v120, v121, v122, v123, v124, v125, v126, v127, v128, v129, v130, v131, v132, v133, v134, v135, v136, v137, v138, v139, v140, v141, v142, v143, v144, v145, v146, v147, v148, v149, v150, v151, v152, v153, v154, v155, v156, v157, v158, v159, v160, v161, v162, v163, v164, v165, v166, v167, v168, v169, v170, v171], defers := [] } w := by
  dsimp only
  conv => arg 2; whnf
  have hk0 : (T.ac.length : Int) < 1000000 := by omega
  go_loopw [10] (fun nv wr => ∃ (n : Nat) (L4 : Blks), n ≤ T.ac.length ∧ nv = .int .i64 n ∧ Hid (Row accC 6 65 (relN T.ac y.ob n) (.slice va T.ac.length vc) L4) ∧ Hid (base.Own u0 wr ((be, 58, [.int .i64 ((y).k), .int .i64 ((y).th), .int .i64 ((y).tx), .int .i64 ((y).at_), .int .i64 ((y).ob), .int .i64 ((y).va), .int .i64 ((y).re)]) :: (bt, 36, trC T (.slice va T.ac.length vc)) :: L4))) (fun nv _ => (T.ac.length - intOf nv).toNat)
  case atStart => exact ⟨0, L2, by omega, rfl, by rw [relN_zero]; exact HRA, HO⟩
  case round =>
    obtain ⟨n, L4, hn, rfl, HR4, OR⟩ := hrel
    have y0 := OR.out.cell 0 0 rfl rfl; have y1 := OR.out.cell 0 1 rfl rfl; have y2 := OR.out.cell 0 2 rfl rfl; have y3 := OR.out.cell 0 3 rfl rfl; have y4 := OR.out.cell 0 4 rfl rfl; have y5 := OR.out.cell 0 5 rfl rfl; have y6 := OR.out.cell 0 6 rfl rfl; have t0 := OR.out.cell 1 0 rfl rfl; have t1 := OR.out.cell 1 1 rfl rfl; have t2 := OR.out.cell 1 2 rfl rfl; have t3 := OR.out.cell 1 3 rfl rfl; have t4 := OR.out.cell 1 4 rfl rfl; have t5 := OR.out.cell 1 5 rfl rfl; have t6 := OR.out.cell 1 6 rfl rfl; have t7 := OR.out.cell 1 7 rfl rfl; have t8 := OR.out.cell 1 8 rfl rfl
    by_cases hnl : n < T.ac.length
    · obtain ⟨g, cp, hv2⟩ := HR4.out.some (by rw [relN_len]; omega)
      rw [relN_len] at hv2
      cases hv2
      obtain ⟨a2, c2, hv2, HI⟩ := HR4.out.isL accC_len (own_flip (A := [_, _]) OR.out)
      rw [relN_len] at hv2
      cases hv2
      obtain ⟨gb, oo, hgo, hgb, z0, z1, z2, z3, z4, z5⟩ := accAt HI (relN_get hnl)
      cases hgo
      rw [Nat.zero_add] at z0 z1 z2 z3 z4 z5
      have f5 := row_free HR4.out (relN_len _ _ _).symm (own_flip (A := [_, _]) OR.out) (n * 6 + 5)
      have ST := Lib.hid (relN_step (o := y.ob) hnl)
      have RM := Lib.hid (row_mark HR4.out (relN_len _ _ _).symm (own_flip (A := [_, _]) OR.out.drew) (by rw [relN_len]; exact hnl))
      generalize T.ac[n] = X at *
      have hnl' : (n : Int) < (T.ac.length : Int) := by omega
      have hn6 : (n : Int) < 1000000 := by omega
      by_cases h2 : X.k = 2
      · have f2x : (X.k == 2) = true := by simp [h2]
        by_cases ho : X.ob = y.ob
        · have fo : (X.ob == y.ob) = true := by simp [ho]
          have HW := Lib.hid (show relN T.ac y.ob (n + 1) = setRel (relN T.ac y.ob n) n by rw [ST.out, if_pos ⟨h2, ho⟩])
          clear h2 ho
          go_wp2_with fail
          go_big_quiet (fail)
          have RN := Lib.hid (row_mark HR4.out (relN_len _ _ _).symm (own_flip (A := [_, _]) (OR.out.drewN nq)) (by rw [relN_len]; exact hnl))
          go_wp2
          obtain ⟨L5, r1, r2⟩ := RN.out
          go_roundw
          case rel => exact ⟨n + 1, L5, by omega, by go_num, by rw [HW.out]; exact r1, own_flip (B := [_, _]) r2⟩
          case measure => simp [intOf] <;> omega
        · have fo : (X.ob == y.ob) = false := by simp [ho]
          have HW := Lib.hid (show relN T.ac y.ob (n + 1) = relN T.ac y.ob n by rw [ST.out, if_neg (fun h => ho h.2)])
          clear h2 ho
          go_wp2_with fail
          go_big_quiet (fail)
          go_wp2
          go_roundw
          case rel => exact ⟨n + 1, L4, by omega, by go_num, by rw [HW.out]; exact HR4, Lib.hid (OR.out.drewN _)⟩
          case measure => simp [intOf] <;> omega
      · have f2x : (X.k == 2) = false := by simp [h2]
        have HW := Lib.hid (show relN T.ac y.ob (n + 1) = relN T.ac y.ob n by rw [ST.out, if_neg (fun h => h2 h.1)])
        clear h2
        go_wp2_with fail
        go_big_quiet (fail)
        go_wp2
        go_roundw
        case rel => exact ⟨n + 1, L4, by omega, by go_num, by rw [HW.out]; exact HR4, Lib.hid (OR.out.drewN _)⟩
        case measure => simp [intOf] <;> omega
    · obtain rfl : n = T.ac.length := by omega
      rw [relN_all] at HR4
      go_wp2
      exact hJ _ _ _ _ _ _ _ _ _ _ _ _ _ _ _ _ _ _ _ _ _ _ _ _ _ _ _ _ _ _ _ L4 _ HR4 OR
end Go.Proofs.Ytdohepenmejcaaa.hs

/- The document's Tries: loop 2. A theorem of its own over that piece of the code. -/
namespace Go.Proofs.Ytdohepenmejcaaa.hs
open Go Go.RowKit Go.Proofs.Ytdohepenmejcaaa.base Go.Maps
set_option linter.unusedVariables false
set_option maxRecDepth 100000

set_option maxHeartbeats 4000000 in
theorem piece2 (w u0 : World) (eb off len cap : Nat) (e : Evs) (i bt : Nat) (hl : IsEvs u0 (some ⟨eb, off, none⟩) len e) (hr : right e len = true) (hlt : i < len) (h1 : (e i).k = 1) (hlen : len ≤ 10000) (HO : Hid (base.Own u0 w [(bt, 36, trC (init i (e i)) (.slice none 0 0))])) {v1 v2 v3 v7 v8 v9 v10 v11 v12 v13 v14 v15 v16 v17 v18 v19 v20 v21 v22 v23 v24 v25 v26 v27 v28 v29 v30 v31 v32 v33 v34 v35 v36 v37 v38 v39 v40 v41 v42 v43 v44 v45 v46 v47 v48 v49 v50 v51 v52 v53 v54 v55 v56 v57 v58 v59 v60 v61 v62 v63 v64 v65 v66 v67 v68 v69 v70 v71 v72 v73 v74 v75 v76 v77 v78 v79 v80 v81 v82 v83 v84 v85 v86 v87 v88 v89 v90 v91 v92 v93 v94 v95 v96 v97 v98 v99 v100 v101 v102 v103 v104 v105 v106 v107 v108 v109 v110 v111 v112 v113 v114 v115 v116 v117 v118 v119 v120 v121 v122 v123 v124 v125 v126 v127 v128 v129 v130 v131 v132 v133 v134 v135 v136 v137 v138 v139 v140 v141 v142 v143 v144 v145 v146 v147 v148 v149 v150 v151 v152 v153 v154 v155 v156 v157 v158 v159 v160 v161 v162 v163 v164 v165 v166 v167 v168 v169 v170 v171 : Value} {Q : Exit → Act → World → Prop}
    (hJ : ∀ (u6 u7 u8 u9 u10 u47 u48 u49 u50 u51 u52 u53 u54 u55 u56 u57 u58 u59 u60 u61 u62 u63 u64 u65 u66 u67 u68 u69 u70 u71 u72 u73 u74 u75 u76 u77 u78 u79 u80 u81 u82 u83 u84 u85 u86 u87 u88 u89 u90 u91 u92 u93 u94 u95 u96 u97 u98 u99 u100 u101 u102 u103 u104 u105 u106 u107 u108 u109 u110 u111 u112 u113 u114 u115 u116 u117 u118 u119 u120 u121 u122 u123 u124 u125 u126 u127 u128 u129 u130 u131 u132 u133 u134 u135 u136 u137 u138 u139 u140 u141 u142 u143 u144 u145 u146 u147 u148 u149 u150 u151 u152 u153 u154 u155 u156 u157 u158 u159 u160 u161 u162 u163 u164 u165 u166 : Value) (v : Value) (L2 : Blks) (w' : World), Hid (Row accC 6 65 (trAt e i len).ac v L2) → Hid (base.Own u0 w' ((bt, 36, trC (trAt e i len) v) :: L2)) → Q Exit.normal { tmps := #[.slice (some ⟨eb, off, none⟩) len cap, v1, v2, v3, .int .i64 i, .pointer (some ⟨bt, 0, none⟩), u6, u7, u8, u9, u10, v11, v12, v13, v14, v15, v16, v17, v18, v19, v20, v21, v22, v23, v24, v25, v26, v27, v28, v29, v30, v31, v32, v33, v34, v35, v36, v37, v38, v39, v40, v41, v42, v43, v44, v45, v46, u47, u48, u49, u50, u51, u52, u53, u54, u55, u56, u57, u58, u59, u60, u61, u62, u63, u64, u65, u66, u67, u68, u69, u70, u71, u72, u73, u74, u75, u76, u77, u78, u79, u80, u81, u82, u83, u84, u85, u86, u87, u88, u89, u90, u91, u92, u93, u94, u95, u96, u97, u98, u99, u100, u101, u102, u103, u104, u105, u106, u107, u108, u109, u110, u111, u112, u113, u114, u115, u116, u117, u118, u119, u120, u121, u122, u123, u124, u125, u126, u127, u128, u129, u130, u131, u132, u133, u134, u135, u136, u137, u138, u139, u140, u141, u142, u143, u144, u145, u146, u147, u148, u149, u150, u151, u152, u153, u154, u155, u156, u157, u158, u159, u160, u161, u162, u163, u164, u165, u166, v167, v168, v169, v170, v171], defers := [] } w') :
    Code.wp Try.prog (pcs Try.f42 [1, 1, 0, 1, 0, 0, 1, 0, 0, 1, 1, 0, 1, 0]) (Exit.inBlock 2 Q) { tmps := #[.slice (some ⟨eb, off, none⟩) len cap, v1, v2, v3, .int .i64 i, .pointer (some ⟨bt, 0, none⟩), .int .i64 ((i : Int) + 1), v7, v8, v9, v10, v11, v12, v13, v14, v15, v16, v17, v18, v19, v20, v21, v22, v23, v24, v25, v26, v27, v28, v29, v30, v31, v32, v33, v34, v35, v36, v37, v38, v39, v40, v41, v42, v43, v44, v45, v46, v47, v48, v49, v50, v51, v52, v53, v54, v55, v56, v57, v58, v59, v60, v61, v62, v63, v64, v65, v66, v67, v68, v69, v70, v71, v72, v73, v74, v75, v76, v77, v78, v79, v80, v81, v82, v83, v84, v85, v86, v87, v88, v89, v90, v91, v92, v93, v94, v95, v96, v97, v98, v99, v100, v101, v102, v103, v104, v105, v106, v107, v108, v109, v110, v111, v112, v113, v114, v115, v116, v117, v118, v119, v120, v121, v122, v123, v124, v125, v126, v127, v128, v129, v130, v131, v132, v133, v134, v135, v136, v137, v138, v139, v140, v141, v142, v143, v144, v145, v146, v147, v148, v149, v150, v151, v152, v153, v154, v155, v156, v157, v158, v159, v160, v161, v162, v163, v164, v165, v166, v167, v168, v169, v170, v171], defers := [] } w := by
  dsimp only
  conv => arg 2; whnf
  have HL := Lib.hid hl
  have HR := Lib.hid hr
  have W1 := Lib.hid h1
  have INI := Lib.hid (show trAt e i (i + 1) = init i (e i) from trAt_init e i (i + 1) (Nat.le_refl _))
  have hlen' : (len : Int) ≤ 10000 := by omega
  have HJ := Lib.hid hJ
  clear hl hr h1 hJ
  go_loopw [6] (fun kv wr => ∃ (k : Nat) (v : Value) (L2 : Blks), i + 1 ≤ k ∧ k ≤ len ∧ kv = .int .i64 k ∧ Hid (Row accC 6 65 (trAt e i k).ac v L2) ∧ Hid (base.Own u0 wr ((bt, 36, trC (trAt e i k) v) :: L2))) (fun kv _ => (len - intOf kv).toNat)
  case atStart => exact ⟨i + 1, .slice none 0 0, [], by omega, by omega, by go_num, by rw [INI.out]; exact Row.nil, by rw [INI.out]; exact HO⟩
  case round =>
    obtain ⟨k, v, L2, hk1, hk2, rfl, HRA, HOW⟩ := hrel
    obtain ⟨T, hT⟩ : ∃ T, T = trAt e i k := ⟨_, rfl⟩
    rw [← hT] at HRA HOW
    obtain ⟨va, vc, rfl⟩ := HRA.out.slice
    have hac0 : T.ac.length ≤ k := by rw [hT]; exact trAt_ac e i k
    have hk3 : (k : Int) < 1000000 := by omega
    have hac4 : T.ac.length ≤ 10000 := by omega
    have HT := Lib.hid hT
    clear hT
    have t0 := HOW.out.cell 0 0 rfl rfl; have t1 := HOW.out.cell 0 1 rfl rfl; have t2 := HOW.out.cell 0 2 rfl rfl; have t3 := HOW.out.cell 0 3 rfl rfl; have t4 := HOW.out.cell 0 4 rfl rfl; have t5 := HOW.out.cell 0 5 rfl rfl; have t6 := HOW.out.cell 0 6 rfl rfl; have t7 := HOW.out.cell 0 7 rfl rfl; have t8 := HOW.out.cell 0 8 rfl rfl
    by_cases hkl : k < len
    · have hkl' : (k : Int) < (len : Int) := by omega
      by_cases hen : T.en < 0
      · have fen : decide (T.en < 0) = true := by simpa using hen
        have STEP := Lib.hid (show trAt e i (k + 1) = if ownE (e i) (e k) = true then base.stepT T k (e k) else T by rw [HT.out]; exact doc_step e HR.out W1.out (by omega) hkl (by rw [← HT.out]; exact hen))
        have OE := Lib.hid (HOW.out.alloc 58 [.int .i64 ((e k).k), .int .i64 ((e k).th), .int .i64 ((e k).tx), .int .i64 ((e k).at_), .int .i64 ((e k).ob), .int .i64 ((e k).va), .int .i64 ((e k).re)])
        obtain ⟨c0, c1, c2, c3, c4, c5, c6⟩ := evsIn (HL.out.grown HOW.out.grow) hkl
        have heb : eb < wr.heap.size := World.block_lt_of_cell? wr _ c0
        go_upto_region 11 with fail
        generalize wr.alloc (.cells #[.int .i64 ((e k).k), .int .i64 ((e k).th), .int .i64 ((e k).tx), .int .i64 ((e k).at_), .int .i64 ((e k).ob), .int .i64 ((e k).va), .int .i64 ((e k).re)] 58) = v1 at *
        generalize wr.heap.size = be at *
        clear c0 c1 c2 c3 c4 c5 c6 t0 t1 t2 t3 t4 t5 t6 t7 t8 fen heb
        cases hq : ownE (e i) (e k) with
        | false =>
          have HS := Lib.hid (show trAt e i (k + 1) = T by rw [STEP.out, hq, if_neg (by simp)])
          refine wp_pcs (c' := pcs Try.f42 [1, 1, 0, 1, 0, 0, 1, 0, 0, 1, 1, 0, 1, 0, 0, 1, 0, 0, 1, 0, 0]) (by kernel_rfl) ?_
          refine piece11 _ eb off len cap i be (e i) (e k) false true hq rfl hlt hlen (evsIn (HL.out.grown OE.out.grow) hlt) (OE.out.get 0 rfl) ?_
          intro _ _ _ _ _ _ u3 g3
          dsimp only
          clear hq
          go_wp2
          go_roundw
          case rel => exact ⟨k + 1, .slice va T.ac.length vc, L2, by omega, by omega, by go_num, by rw [HS.out]; exact HRA.out, by rw [HS.out]; exact (OE.out.grown g3.out).drop (List.Sublist.cons _ (List.Sublist.refl _))⟩
          case measure => simp [intOf] <;> omega
        | true =>
          have HN := Lib.hid (show trAt e i (k + 1) = base.stepT T k (e k) by rw [STEP.out, hq, if_pos rfl])
          refine wp_pcs (c' := pcs Try.f42 [1, 1, 0, 1, 0, 0, 1, 0, 0, 1, 1, 0, 1, 0, 0, 1, 0, 0, 1, 0, 0]) (by kernel_rfl) ?_
          refine piece11 _ eb off len cap i be (e i) (e k) true false hq rfl hlt hlen (evsIn (HL.out.grown OE.out.grow) hlt) (OE.out.get 0 rfl) ?_
          intro _ _ _ _ _ _ u3 g3
          dsimp only
          have O3 := Lib.hid (OE.out.grown g3.out)
          clear OE STEP g3 hq
          have n0 := O3.out.cell 0 0 rfl rfl; have n1 := O3.out.cell 0 1 rfl rfl; have n2 := O3.out.cell 0 2 rfl rfl; have n3 := O3.out.cell 0 3 rfl rfl; have n4 := O3.out.cell 0 4 rfl rfl; have n5 := O3.out.cell 0 5 rfl rfl; have n6 := O3.out.cell 0 6 rfl rfl; have b0 := O3.out.cell 1 0 rfl rfl; have b1 := O3.out.cell 1 1 rfl rfl; have b2 := O3.out.cell 1 2 rfl rfl; have b3 := O3.out.cell 1 3 rfl rfl; have b4 := O3.out.cell 1 4 rfl rfl; have b5 := O3.out.cell 1 5 rfl rfl; have b6 := O3.out.cell 1 6 rfl rfl; have b7 := O3.out.cell 1 7 rfl rfl; have b8 := O3.out.cell 1 8 rfl rfl; have f0 := O3.out.free 1 0 rfl; have f1 := O3.out.free 1 1 rfl; have f2 := O3.out.free 1 2 rfl; have f3 := O3.out.free 1 3 rfl; have f4 := O3.out.free 1 4 rfl; have f5 := O3.out.free 1 5 rfl; have f6 := O3.out.free 1 6 rfl; have f7 := O3.out.free 1 7 rfl; have f8 := O3.out.free 1 8 rfl
          by_cases h2 : (e k).k = 2
          · have f2 : ((e k).k == 2) = true := by simp [h2]
            have HS := Lib.hid (show trAt e i (k + 1) = { T with ac := T.ac ++ [⟨k, (e k).k, (e k).ob, (e k).va, true && wrote T.ac (e k).ob, false⟩] } by rw [HN.out, stepT_2 _ _ h2, h2, Bool.true_and])
            clear h2
            have OA := Lib.hid (O3.out.alloc 65 [.int .i64 k, .int .i64 ((e k).k), .int .i64 ((e k).ob), .int .i64 ((e k).va), .bool false, .bool false])
            go_upto_region 16 with fail
            generalize u3.alloc (.cells #[.int .i64 k, .int .i64 ((e k).k), .int .i64 ((e k).ob), .int .i64 ((e k).va), .bool false, .bool false] 65) = v4 at *
            generalize u3.heap.size = ba at *
            go_wp2
            refine wp_pcs (c' := pcs Try.f42 [1, 1, 0, 1, 0, 0, 1, 0, 0, 1, 1, 0, 1, 0, 0, 1, 0, 0, 1, 1, 1, 0, 1, 0, 1, 0, 1, 0]) (by kernel_rfl) ?_
            refine piece3 _ u0 bt be ba k T (e k) va vc L2 true (by simpa using f2) hac4 HRA OA ?_
            intro _ _ _ _ _ _ _ _ _ _ _ _ _ _ _ _ _ _ _ _ _ _ _ _ _ _ _ _ _ _ _ _ _ _ _ _ w4 O4
            dsimp only
            go_upto_region 20 with fail
            refine wp_pcs (c' := pcs Try.f42 [1, 1, 0, 1, 0, 0, 1, 0, 0, 1, 1, 0, 1, 0, 0, 1, 0, 0, 1, 1, 1, 0, 1, 0, 1, 1]) (by kernel_rfl) ?_
            refine piece20 _ u0 bt be ba k T (e k) (true && wrote T.ac (e k).ob) va vc L2 hac4 HRA O4 ?_
            intro _ _ _ _ _ _ g' c' L3 w5 R5 O5
            dsimp only
            go_wp2
            go_roundw
            case rel => exact ⟨k + 1, (.slice (some ⟨g', 0, none⟩) (T.ac.length + 1) c'), L3, by omega, by omega, by go_num, by rw [HS.out]; exact R5.out, by rw [HS.out]; exact O5.out.drop (List.Sublist.cons _ (List.Sublist.cons _ (List.Sublist.refl _)))⟩
            case measure => simp [intOf] <;> omega
          · have f2 : ((e k).k == 2) = false := by simp [h2]
            by_cases h3 : (e k).k = 3
            · have f3 : ((e k).k == 3) = true := by simp [h3]
              have HS := Lib.hid (show trAt e i (k + 1) = { T with ac := T.ac ++ [⟨k, (e k).k, (e k).ob, (e k).va, false && wrote T.ac (e k).ob, false⟩] } by rw [HN.out, stepT_3 _ _ h3, h3, Bool.false_and])
              clear h2 h3
              have OA := Lib.hid (O3.out.alloc 65 [.int .i64 k, .int .i64 ((e k).k), .int .i64 ((e k).ob), .int .i64 ((e k).va), .bool false, .bool false])
              go_upto_region 16 with fail
              generalize u3.alloc (.cells #[.int .i64 k, .int .i64 ((e k).k), .int .i64 ((e k).ob), .int .i64 ((e k).va), .bool false, .bool false] 65) = v4 at *
              generalize u3.heap.size = ba at *
              go_wp2
              refine wp_pcs (c' := pcs Try.f42 [1, 1, 0, 1, 0, 0, 1, 0, 0, 1, 1, 0, 1, 0, 0, 1, 0, 0, 1, 1, 1, 0, 1, 0, 1, 0, 1, 0]) (by kernel_rfl) ?_
              refine piece3 _ u0 bt be ba k T (e k) va vc L2 false (by simpa using f2) hac4 HRA OA ?_
              intro _ _ _ _ _ _ _ _ _ _ _ _ _ _ _ _ _ _ _ _ _ _ _ _ _ _ _ _ _ _ _ _ _ _ _ _ w4 O4
              dsimp only
              go_upto_region 20 with fail
              refine wp_pcs (c' := pcs Try.f42 [1, 1, 0, 1, 0, 0, 1, 0, 0, 1, 1, 0, 1, 0, 0, 1, 0, 0, 1, 1, 1, 0, 1, 0, 1, 1]) (by kernel_rfl) ?_
              refine piece20 _ u0 bt be ba k T (e k) (false && wrote T.ac (e k).ob) va vc L2 hac4 HRA O4 ?_
              intro _ _ _ _ _ _ g' c' L3 w5 R5 O5
              dsimp only
              go_wp2
              go_roundw
              case rel => exact ⟨k + 1, (.slice (some ⟨g', 0, none⟩) (T.ac.length + 1) c'), L3, by omega, by omega, by go_num, by rw [HS.out]; exact R5.out, by rw [HS.out]; exact O5.out.drop (List.Sublist.cons _ (List.Sublist.cons _ (List.Sublist.refl _)))⟩
              case measure => simp [intOf] <;> omega
            · have f3 : ((e k).k == 3) = false := by simp [h3]
              by_cases h4 : (e k).k = 4
              · have f4 : ((e k).k == 4) = true := by simp [h4]
                have HS := Lib.hid (show trAt e i (k + 1) = { T with ac := relAll T.ac (e k).ob } by rw [HN.out, stepT_4 _ _ h4])
                clear h2 h3 h4
                go_wp2
                refine wp_pcs (c' := pcs Try.f42 [1, 1, 0, 1, 0, 0, 1, 0, 0, 1, 1, 0, 1, 0, 0, 1, 0, 0, 1, 1, 1, 0, 1, 1, 1, 0, 1, 0]) (by kernel_rfl) ?_
                refine piece4 _ u0 bt be T (e k) va vc L2 hac4 HRA O3 ?_
                intro _ _ _ _ _ _ _ _ _ _ _ _ _ _ _ _ _ _ _ _ _ _ _ _ _ _ _ _ _ _ _ L4 w4 R4 O4
                dsimp only
                go_wp2
                go_roundw
                case rel => exact ⟨k + 1, (.slice va T.ac.length vc), L4, by omega, by omega, by go_num, by rw [HS.out]; exact R4.out, by rw [HS.out]; exact O4.out.drop (List.Sublist.cons _ (List.Sublist.refl _))⟩
                case measure => simp [intOf] <;> omega
              · have f4 : ((e k).k == 4) = false := by simp [h4]
                by_cases h5 : (e k).k = 5
                · have f5k : ((e k).k == 5) = true := by simp [h5]
                  have HS := Lib.hid (show trAt e i (k + 1) = { T with en := k, co := true } by rw [HN.out, stepT_5 _ _ h5])
                  clear h2 h3 h4 h5
                  go_wp2
                  go_roundw
                  case rel => exact ⟨k + 1, (.slice va T.ac.length vc), L2, by omega, by omega, by go_num, by rw [HS.out]; exact HRA.out, by rw [HS.out]; exact ((O3.out.set 1 5 (.int .i64 k) rfl).set 1 7 (.bool true) rfl).drop (List.Sublist.cons _ (List.Sublist.refl _))⟩
                  case measure => simp [intOf] <;> omega
                · have f5k : ((e k).k == 5) = false := by simp [h5]
                  by_cases h6 : (e k).k = 6
                  · have f6k : ((e k).k == 6) = true := by simp [h6]
                    have HS := Lib.hid (show trAt e i (k + 1) = { T with en := k, re := (e k).re } by rw [HN.out, stepT_6 _ _ h6])
                    clear h2 h3 h4 h5 h6
                    go_wp2
                    go_roundw
                    case rel => exact ⟨k + 1, (.slice va T.ac.length vc), L2, by omega, by omega, by go_num, by rw [HS.out]; exact HRA.out, by rw [HS.out]; exact ((O3.out.set 1 5 (.int .i64 k) rfl).set 1 6 (.int .i64 (e k).re) rfl).drop (List.Sublist.cons _ (List.Sublist.refl _))⟩
                    case measure => simp [intOf] <;> omega
                  · have f6k : ((e k).k == 6) = false := by simp [h6]
                    have HS := Lib.hid (show trAt e i (k + 1) = T by rw [HN.out, stepT_no _ _ h2 h3 h4 h5 h6])
                    clear h2 h3 h4 h5 h6
                    go_wp2
                    go_roundw
                    case rel => exact ⟨k + 1, (.slice va T.ac.length vc), L2, by omega, by omega, by go_num, by rw [HS.out]; exact HRA.out, by rw [HS.out]; exact O3.out.drop (List.Sublist.cons _ (List.Sublist.refl _))⟩
                    case measure => simp [intOf] <;> omega
      · have fen : decide (T.en < 0) = false := by simpa using hen
        have HF := Lib.hid (show trAt e i len = T by rw [HT.out]; exact trAt_end e i (by rw [← HT.out]; omega) (Nat.le_of_lt hkl))
        go_wp2
        have hJ := HJ.out
        rw [HF.out] at hJ
        exact hJ _ _ _ _ _ _ _ _ _ _ _ _ _ _ _ _ _ _ _ _ _ _ _ _ _ _ _ _ _ _ _ _ _ _ _ _ _ _ _ _ _ _ _ _ _ _ _ _ _ _ _ _ _ _ _ _ _ _ _ _ _ _ _ _ _ _ _ _ _ _ _ _ _ _ _ _ _ _ _ _ _ _ _ _ _ _ _ _ _ _ _ _ _ _ _ _ _ _ _ _ _ _ _ _ _ _ _ _ _ _ _ _ _ _ _ _ _ _ _ _ _ _ _ _ _ _ L2 _ HRA HOW
    · obtain rfl : k = len := by omega
      go_wp2
      have hJ := HJ.out
      rw [← HT.out] at hJ
      exact hJ _ _ _ _ _ _ _ _ _ _ _ _ _ _ _ _ _ _ _ _ _ _ _ _ _ _ _ _ _ _ _ _ _ _ _ _ _ _ _ _ _ _ _ _ _ _ _ _ _ _ _ _ _ _ _ _ _ _ _ _ _ _ _ _ _ _ _ _ _ _ _ _ _ _ _ _ _ _ _ _ _ _ _ _ _ _ _ _ _ _ _ _ _ _ _ _ _ _ _ _ _ _ _ _ _ _ _ _ _ _ _ _ _ _ _ _ _ _ _ _ _ _ _ _ _ _ L2 _ HRA HOW
end Go.Proofs.Ytdohepenmejcaaa.hs

/- The document's Tries: region 33. A theorem of its own over that piece of the code. -/
namespace Go.Proofs.Ytdohepenmejcaaa.hs
open Go Go.RowKit Go.Proofs.Ytdohepenmejcaaa.base Go.Maps
set_option linter.unusedVariables false
set_option maxRecDepth 100000

theorem infoTryD : (Try.prog.info? 36).map (fun i => (i.zero, i.size, i.bytes)) = some (some (.agg #[.int .i64 0, .int .i64 0, .int .i64 0, .int .i64 0, .int .i64 0, .int .i64 0, .int .i64 0, .bool false, .slice none 0 0]), 9, 88) := by kernel_rfl

set_option maxHeartbeats 4000000 in
theorem piece33 (w : World) (w0 u0 : World) (bt : Nat) (ys : List (Tr × Value)) (T : Tr) (v : Value) (oa : Option Addr) (oc : Nat) (L L2 : Blks) (hyl : ys.length ≤ 10000) (hg : Hid (u0.grownBy w none)) (HROW : Hid (Row tvC 9 36 ys (.slice oa ys.length oc) L)) (HO : Hid (base.Own w0 u0 L)) (HAC : Hid (∀ x ∈ ys, u0.ownsRow 0 65 6 x.2 x.1.ac.length (rows accC x.1.ac))) (HRA : Hid (Row accC 6 65 T.ac v L2)) (HOW : Hid (base.Own u0 w ((bt, 36, trC T v) :: L2))) {v0 v1 v2 v4 v6 v7 v8 v9 v10 v11 v12 v13 v14 v15 v16 v17 v18 v19 v20 v21 v22 v23 v24 v25 v26 v27 v28 v29 v30 v31 v32 v33 v34 v35 v36 v37 v38 v39 v40 v41 v42 v43 v44 v45 v46 v47 v48 v49 v50 v51 v52 v53 v54 v55 v56 v57 v58 v59 v60 v61 v62 v63 v64 v65 v66 v67 v68 v69 v70 v71 v72 v73 v74 v75 v76 v77 v78 v79 v80 v81 v82 v83 v84 v85 v86 v87 v88 v89 v90 v91 v92 v93 v94 v95 v96 v97 v98 v99 v100 v101 v102 v103 v104 v105 v106 v107 v108 v109 v110 v111 v112 v113 v114 v115 v116 v117 v118 v119 v120 v121 v122 v123 v124 v125 v126 v127 v128 v129 v130 v131 v132 v133 v134 v135 v136 v137 v138 v139 v140 v141 v142 v143 v144 v145 v146 v147 v148 v149 v150 v151 v152 v153 v154 v155 v156 v157 v158 v159 v160 v161 v162 v163 v164 v165 v166 v167 v168 v169 v170 v171 : Value} {Q : Exit → Act → World → Prop}
    (hJ : ∀ (u167 u168 u169 u170 : Value) (g' c' : Nat) (L' : Blks) (w' : World), Hid (Row tvC 9 36 (ys ++ [(T, v)]) (.slice (some ⟨g', 0, none⟩) (ys.length + 1) c') L') → Hid (base.Own w0 w' L') → Hid (∀ x ∈ ys ++ [(T, v)], w'.ownsRow 0 65 6 x.2 x.1.ac.length (rows accC x.1.ac)) → Q Exit.normal { tmps := #[v0, v1, v2, .slice (some ⟨g', 0, none⟩) (ys.length + 1) c', v4, .pointer (some ⟨bt, 0, none⟩), v6, v7, v8, v9, v10, v11, v12, v13, v14, v15, v16, v17, v18, v19, v20, v21, v22, v23, v24, v25, v26, v27, v28, v29, v30, v31, v32, v33, v34, v35, v36, v37, v38, v39, v40, v41, v42, v43, v44, v45, v46, v47, v48, v49, v50, v51, v52, v53, v54, v55, v56, v57, v58, v59, v60, v61, v62, v63, v64, v65, v66, v67, v68, v69, v70, v71, v72, v73, v74, v75, v76, v77, v78, v79, v80, v81, v82, v83, v84, v85, v86, v87, v88, v89, v90, v91, v92, v93, v94, v95, v96, v97, v98, v99, v100, v101, v102, v103, v104, v105, v106, v107, v108, v109, v110, v111, v112, v113, v114, v115, v116, v117, v118, v119, v120, v121, v122, v123, v124, v125, v126, v127, v128, v129, v130, v131, v132, v133, v134, v135, v136, v137, v138, v139, v140, v141, v142, v143, v144, v145, v146, v147, v148, v149, v150, v151, v152, v153, v154, v155, v156, v157, v158, v159, v160, v161, v162, v163, v164, v165, v166, u167, u168, u169, u170, v171], defers := [] } w') :
    Code.wp Try.prog (pcs Try.f42 [1, 1, 0, 1, 0, 0, 1, 0, 0, 1, 1, 1]) (Q) { tmps := #[v0, v1, v2, .slice oa ys.length oc, v4, .pointer (some ⟨bt, 0, none⟩), v6, v7, v8, v9, v10, v11, v12, v13, v14, v15, v16, v17, v18, v19, v20, v21, v22, v23, v24, v25, v26, v27, v28, v29, v30, v31, v32, v33, v34, v35, v36, v37, v38, v39, v40, v41, v42, v43, v44, v45, v46, v47, v48, v49, v50, v51, v52, v53, v54, v55, v56, v57, v58, v59, v60, v61, v62, v63, v64, v65, v66, v67, v68, v69, v70, v71, v72, v73, v74, v75, v76, v77, v78, v79, v80, v81, v82, v83, v84, v85, v86, v87, v88, v89, v90, v91, v92, v93, v94, v95, v96, v97, v98, v99, v100, v101, v102, v103, v104, v105, v106, v107, v108, v109, v110, v111, v112, v113, v114, v115, v116, v117, v118, v119, v120, v121, v122, v123, v124, v125, v126, v127, v128, v129, v130, v131, v132, v133, v134, v135, v136, v137, v138, v139, v140, v141, v142, v143, v144, v145, v146, v147, v148, v149, v150, v151, v152, v153, v154, v155, v156, v157, v158, v159, v160, v161, v162, v163, v164, v165, v166, v167, v168, v169, v170, v171], defers := [] } w := by
  dsimp only
  conv => arg 2; whnf
  obtain ⟨i0, hi0, hz00, hz10, hz20⟩ := info_parts infoTryD
  have hi := Lib.hid hi0
  have hz0 := Lib.hid hz00
  have hz1 := Lib.hid hz10
  have hz2 := Lib.hid hz20
  clear hi0 hz00 hz10 hz20
  obtain ⟨va, vc, rfl⟩ := HRA.out.slice
  have t0 := HOW.out.cell 0 0 rfl rfl; have t1 := HOW.out.cell 0 1 rfl rfl; have t2 := HOW.out.cell 0 2 rfl rfl; have t3 := HOW.out.cell 0 3 rfl rfl; have t4 := HOW.out.cell 0 4 rfl rfl; have t5 := HOW.out.cell 0 5 rfl rfl; have t6 := HOW.out.cell 0 6 rfl rfl; have t7 := HOW.out.cell 0 7 rfl rfl; have t8 := HOW.out.cell 0 8 rfl rfl
  have HOUT := Lib.hid (HO.out.grown hg.out)
  have HOWN := Lib.hid (HROW.out.owns tvC_len (R := []) (by rw [List.append_nil]; exact HOUT.out))
  have HXS := Lib.hid (HRA.out.owns accC_len (own_flip (A := [_]) HOW.out))
  have hbase := HO.out.grow.size
  have hbase2 := HOW.out.grow.size
  go_wp2_with (first | (at_builtin; refine wpList_append_at _ rfl (.tmp 167) (.tmp 169) 59 rfl w0.heap.size 36 i0 (.agg #[.int .i64 0, .int .i64 0, .int .i64 0, .int .i64 0, .int .i64 0, .int .i64 0, .int .i64 0, .bool false, .slice none 0 0]) 9 88 Try.underlying59 hi.out hz0.out hz1.out hz2.out rfl (by decide) (.slice oa ys.length oc) ys.length (rows tvC ys) rfl (HOWN.out.alloc _) ⟨w.heap.size, 0, none⟩ 1 1 (tvC (T, .slice va T.ac.length vc)) rfl rfl (new_cells w _ _) (by intro u hu; simp [tvC, trC] at hu; rcases hu with rfl | rfl | rfl | rfl | rfl | rfl | rfl | rfl | rfl <;> rfl) (by unfold maxLen; omega) (by omega) (by simp; omega) (by decide) ?_; intro g' c' w5 ho hg2 hv; obtain ⟨L', r1, r2⟩ := base.Row.snoc (x := (T, .slice va T.ac.length vc)) HROW.out (R := []) (by rw [List.append_nil]; exact HOUT.out) (World.grownBy_alloc w _ none) ho hg2 hv; rw [List.append_nil] at r2; have R1 := Lib.hid r1; have R2 := Lib.hid r2; have R3 := Lib.hid (acs_snoc (x := (T, .slice va T.ac.length vc)) HAC.out hg.out HXS.out HOWN.out (by decide) (gb_trans (World.grownBy_alloc w _ _) hg2)); clear ho hg2 hv r1 r2) | go_in)
  exact hJ _ _ _ _ g' c' L' _ R1 R2 R3
end Go.Proofs.Ytdohepenmejcaaa.hs

/- The document's own answer of chapter 17: Tries. -/
namespace Go.Proofs.Ytdohepenmejcaaa.hs
open Go Go.RowKit Go.Proofs.Ytdohepenmejcaaa.base Go.Maps
set_option linter.unusedVariables false
set_option maxRecDepth 100000

set_option maxHeartbeats 4000000 in
theorem tries_docA (a : Option Addr) (len cap : Nat) (e : Evs) (w : World) (hl : IsEvs w a len e) (hr : right e len = true) (hlen : len ≤ 10000) :
    Calls Try.prog 42 #[.slice a len cap] w fun r w' => ∃ a' c ys, r = .returned (.slice a' ys.length c) ∧ Hid (TsAt w' a' ys) ∧ Hid (ys.map Prod.fst = tries e len) ∧ Hid (w.grownBy w' none) ∧ Hid (∀ x ∈ ys, w'.ownsRow 0 65 6 x.2 x.1.ac.length (rows accC x.1.ac)) := by
  have HL := Lib.hid hl
  have HR := Lib.hid hr
  have HLEN := Lib.hid hlen
  clear hl hr hlen
  go_enter Try.func42, Try.ntmps42
  go_wp2_with fail
  go_loopw [3, 4] (fun ov iv wr => ∃ (i : Nat) (ys : List (Tr × Value)) (L : Blks), i ≤ len ∧ iv = .int .i64 i ∧ Hid (Row tvC 9 36 ys ov L) ∧ Hid (base.Own w wr L) ∧ Hid (ys.map Prod.fst = (begins e i).map fun b => trAt e b len) ∧ Hid (∀ x ∈ ys, wr.ownsRow 0 65 6 x.2 x.1.ac.length (rows accC x.1.ac))) (fun _ iv _ => (len - intOf iv).toNat)
  case atStart => exact ⟨0, [], [], by omega, rfl, Row.nil, base.Own.start w, rfl, fun x hx => by simp at hx⟩
  case round =>
    obtain ⟨i, ys, L, hi1, rfl, HROW, HO, HYS, HAC⟩ := hrel
    obtain ⟨oa, oc, rfl⟩ := HROW.out.slice
    by_cases hlt : i < len
    · obtain ⟨eb, off, rfl, heb, fe0⟩ := evsAt (HL.out.grown HO.out.grow) (show 0 < len by omega)
      obtain ⟨c0, c1, c2, c3, c4, c5, c6⟩ := fe0 i hlt
      clear fe0
      have hlt' : (i : Int) < (len : Int) := by omega
      have hil : (i : Int) < 1000000 := by have := HLEN.out; omega
      by_cases h1 : (e i).k = 1
      · have f1 : ((e i).k != 1) = false := by simp [h1]
        have W1 := Lib.hid h1
        clear h1
        have HL0 := Lib.hid (HL.out.grown HO.out.grow)
        have hyl : ys.length ≤ 10000 := by
          have h9 := congrArg List.length HYS.out
          rw [List.length_map, List.length_map] at h9
          have h8 := begins_n e i
          have h7 := HLEN.out
          omega
        obtain ⟨u0, hu0⟩ : ∃ u0, u0 = wr := ⟨_, rfl⟩
        subst hu0
        go_upto_region 6 with fail
        refine wp_pcs (c' := pcs Try.f42 [1, 1, 0, 1, 0, 0, 1, 0, 0, 1, 0]) (by kernel_rfl) ?_
        refine piece6 u0 eb off len cap e i HL0.out hlt HLEN.out ?_
        refine Lib.hid ?_
        intro _ _ _ _ _ _ _ _ _ _ _ _ _ _ _ _ _ _ _ _ _ _
        dsimp only
        have OT := Lib.hid (((base.Own.start u0).alloc 36 [.int .i64 ((e i).th), .int .i64 ((e i).tx), .int .i64 ((e i).at_), .int .i64 ((e i).va), .int .i64 i, .int .i64 (-1), .int .i64 0, .bool false, .slice none 0 0]).drew)
        generalize (u0.alloc _).drew = u1 at *
        generalize hbt : u0.heap.size = bt at OT
        clear hbt c0 c1 c2 c3 c4 c5 c6
        go_wp2
        refine wp_pcs (c' := pcs Try.f42 [1, 1, 0, 1, 0, 0, 1, 0, 0, 1, 1, 0, 1, 0]) (by kernel_rfl) ?_
        refine piece2 _ u0 eb off len cap e i bt HL0.out HR.out hlt W1.out HLEN.out OT ?_
        intro _ _ _ _ _ _ _ _ _ _ _ _ _ _ _ _ _ _ _ _ _ _ _ _ _ _ _ _ _ _ _ _ _ _ _ _ _ _ _ _ _ _ _ _ _ _ _ _ _ _ _ _ _ _ _ _ _ _ _ _ _ _ _ _ _ _ _ _ _ _ _ _ _ _ _ _ _ _ _ _ _ _ _ _ _ _ _ _ _ _ _ _ _ _ _ _ _ _ _ _ _ _ _ _ _ _ _ _ _ _ _ _ _ _ _ _ _ _ _ _ _ _ _ _ _ v L2 w2 R2 O2
        dsimp only
        go_upto_region 33 with fail
        refine wp_pcs (c' := pcs Try.f42 [1, 1, 0, 1, 0, 0, 1, 0, 0, 1, 1, 1]) (by kernel_rfl) ?_
        refine piece33 _ w u0 bt ys (trAt e i len) v oa oc L L2 hyl O2.out.grow HROW HO HAC R2 O2 ?_
        intro _ _ _ _ g' c' L' w3 R3 O3 A3
        dsimp only
        go_wp2
        go_roundw
        case rel => exact ⟨i + 1, ys ++ [(trAt e i len, v)], L', by omega, by go_num, R3, O3, by (rw [begins_succ, if_pos W1.out, List.map_append, List.map_append, HYS.out]; show _ = _; simp), A3⟩
        case measure => simp [intOf] <;> omega
      · have f1 : ((e i).k != 1) = true := by simp [h1]
        have HB := Lib.hid (show begins e (i + 1) = begins e i by rw [begins_succ, if_neg h1])
        clear h1
        go_wp2
        go_roundw
        case rel => exact ⟨i + 1, ys, L, by omega, by go_num, HROW, HO, by rw [HB.out]; exact HYS, HAC⟩
        case measure => simp [intOf] <;> omega
    · obtain rfl : i = len := by omega
      go_wp2
      go_ret
      obtain ⟨a', c', hv, HT⟩ := TsAt.of_row HROW.out (R := []) (by rw [List.append_nil]; exact HO.out) (fun x hx => isL_owns (HAC.out x hx))
      cases hv
      exact ⟨_, _, ys, rfl, HT, HYS.out, HO.out.grow, HAC⟩

theorem tries_doc (a : Option Addr) (len cap : Nat) (e : Evs) (w : World) (hl : IsEvs w a len e) (hr : right e len = true) (hlen : len ≤ 10000) :
    Calls Try.prog 42 #[.slice a len cap] w fun r w' => ∃ a' c ys, r = .returned (.slice a' ys.length c) ∧ Hid (TsAt w' a' ys) ∧ Hid (ys.map Prod.fst = tries e len) ∧ Hid (w.grownBy w' none) :=
  (tries_docA a len cap e w hl hr hlen).mono fun _ _ ⟨a', c, ys, h0, h1, h2, h3, _⟩ => ⟨a', c, ys, h0, h1, h2, h3⟩

end Go.Proofs.Ytdohepenmejcaaa.hs

/- The document's own answer of chapter 17: Commits. -/
namespace Go.Proofs.Ytdohepenmejcaaa.hs
open Go Go.RowKit Go.Proofs.Ytdohepenmejcaaa.base Go.Maps
set_option linter.unusedVariables false
set_option maxRecDepth 100000

theorem take_filter {α : Type} (l : List α) (p : α → Bool) {k : Nat} {x : α} (h : l[k]? = some x) : (l.take (k + 1)).filter p = (l.take k).filter p ++ (if p x = true then [x] else []) := by
  rw [List.take_add_one, h, List.filter_append]
  by_cases hp : p x = true
  · simp [hp]
  · simp [hp]

theorem in_snoc {α : Type} {ts ys : List α} {x : α} (h : ∀ y ∈ ys, y ∈ ts) (hx : x ∈ ts) : ∀ y ∈ ys ++ [x], y ∈ ts := by
  intro y hy
  rcases List.mem_append.1 hy with hy | hy
  · exact h y hy
  · rw [List.mem_singleton.1 hy]
    exact hx
/-- One more try of those that lie there. -/
theorem ts_snoc {u w : World} {ys : List (Tr × Value)} {L : Blks} {oa : Option Addr} {oc : Nat} {x : Tr × Value} {g' c' : Nat} (HROW : Row tvC 9 36 ys (.slice oa ys.length oc) L) (HO : base.Own u w L) {o : Obj} {w5 : World}
    (ho : w5.ownsRow u.heap.size 36 9 (.slice (some ⟨g', 0, none⟩) (ys.length + 1) c') (ys.length + 1) (rows tvC ys ++ tvC x)) (hg : (w.alloc o).grownBy w5 (Value.slice oa ys.length oc).ownBlock) (hv : some g' = (Value.slice oa ys.length oc).ownBlock ∨ (w.alloc o).heap.size ≤ g') :
    ∃ L', Row tvC 9 36 (ys ++ [x]) (.slice (some ⟨g', 0, none⟩) (ys.length + 1) c') L' ∧ base.Own u w5 L' := by
  obtain ⟨L', r1, r2⟩ := base.Row.snoc (x := x) HROW (R := []) (by rw [List.append_nil]; exact HO) (World.grownBy_alloc w o none) ho hg hv
  rw [List.append_nil] at r2
  exact ⟨L', r1, r2⟩

set_option maxHeartbeats 4000000 in
theorem comms_docA (a : Option Addr) (len cap : Nat) (e : Evs) (w : World) (hl : IsEvs w a len e) (hr : right e len = true) (hlen : len ≤ 1000) :
    Calls Try.prog 26 #[.slice a len cap] w fun r w' => ∃ a' c ys, r = .returned (.slice a' ys.length c) ∧ Hid (TsAt w' a' ys) ∧ Hid (ys.map Prod.fst = commsD e len) ∧ Hid (w.grownBy w' none) ∧ Hid (w'.ownsRow 0 36 9 (.slice a' ys.length c) ys.length (rows tvC ys)) ∧ Hid (∀ x ∈ ys, w'.ownsRow 0 65 6 x.2 x.1.ac.length (rows accC x.1.ac)) := by
  have HL := Lib.hid hl
  have HR := Lib.hid hr
  have HLEN := Lib.hid hlen
  obtain ⟨i0, hi0, hz00, hz10, hz20⟩ := info_parts infoTryD
  have hi := Lib.hid hi0
  have hz0 := Lib.hid hz00
  have hz1 := Lib.hid hz10
  have hz2 := Lib.hid hz20
  clear hl hr hlen hi0 hz00 hz10 hz20
  go_enter Try.func26, Try.ntmps26
  go_wp2_with fail
  refine (tries_docA a len cap e _ HL.out HR.out (by have := HLEN.out; omega)).mono ?_
  rintro r u1 ⟨ta, tc, ts, rfl, HT, HTS, g1, HAA⟩
  have hlen' : (len : Int) ≤ 1000 := by have := HLEN.out; omega
  have htl : ts.length ≤ 1000 := by
    have h9 := congrArg List.length HTS.out
    rw [List.length_map] at h9
    have h8 := tries_n e len
    have h7 := HLEN.out
    omega
  have htl2 : (ts.length : Int) ≤ 1000 := by omega
  have HLT := Lib.hid (show ts.length = (tries e len).length by rw [← HTS.out, List.length_map])
  go_wp2
  go_loopw [3, 5] (fun ov iv wr => ∃ (i : Nat) (ys : List (Tr × Value)) (L : Blks), i ≤ len ∧ iv = .int .i64 i ∧ Hid (Row tvC 9 36 ys ov L) ∧ Hid (base.Own u1 wr L) ∧ Hid (ys.map Prod.fst = (List.range i).flatMap fun (j : Nat) => (tries e len).filter fun t => t.co && decide (t.en = (j : Int))) ∧ Hid (∀ x ∈ ys, x ∈ ts) ∧ Hid (ys.length ≤ i * 1000)) (fun _ iv _ => (len - intOf iv).toNat)
  case atStart => exact ⟨0, [], [], by omega, rfl, Row.nil, base.Own.start u1, rfl, fun x hx => by simp at hx, Nat.zero_le _⟩
  case round =>
    obtain ⟨i, ys, L, hi1, rfl, HROW, HO, HYS, HIN, HN⟩ := hrel
    obtain ⟨oa, oc, rfl⟩ := HROW.out.slice
    by_cases hlt : i < len
    · have hlt' : (i : Int) < (len : Int) := by omega
      have HYS0 := Lib.hid HYS.out
      obtain ⟨B, hB⟩ : ∃ B, B = (List.range i).flatMap fun (j : Nat) => (tries e len).filter fun t => t.co && decide (t.en = (j : Int)) := ⟨_, rfl⟩
      rw [← hB] at HYS
      have HB := Lib.hid hB
      clear hB HYS0
      go_wp2
      go_loopw [3, 6] (fun ov kv wr => ∃ (k : Nat) (ys : List (Tr × Value)) (L : Blks), k ≤ ts.length ∧ kv = .int .i64 k ∧ Hid (Row tvC 9 36 ys ov L) ∧ Hid (base.Own u1 wr L) ∧ Hid (ys.map Prod.fst = B ++ ((tries e len).take k).filter fun t => t.co && decide (t.en = (i : Int))) ∧ Hid (∀ x ∈ ys, x ∈ ts) ∧ Hid (ys.length ≤ i * 1000 + k)) (fun _ kv _ => (ts.length - intOf kv).toNat)
      case atStart => exact ⟨0, ys, L, by omega, rfl, HROW, HO, by show _ = _; rw [HYS.out]; simp, HIN, HN⟩
      case round =>
        clear HROW HO HYS HIN HN
        obtain ⟨k, ys, L, hk1, rfl, HROW, HO, HYS, HIN, HN⟩ := hrel
        obtain ⟨oa, oc, rfl⟩ := HROW.out.slice
        by_cases hkl : k < ts.length
        · have hkl' : (k : Int) < (ts.length : Int) := by omega
          have hkx : (tries e len)[k]? = some ts[k].1 := by rw [← HTS.out, List.getElem?_map, List.getElem?_eq_getElem hkl]; rfl
          obtain ⟨b, off, va, vc, rfl, hb, hx2, HI, q0, q1, q2, q3, q4, q5, q6, q7, q8⟩ := (HT.out.grown HO.out.grow).at (List.getElem?_eq_getElem hkl)
          have hmem : ts[k] ∈ ts := List.getElem_mem hkl
          obtain ⟨t, ht⟩ : ∃ t, t = ts[k].1 := ⟨_, rfl⟩
          rw [← ht] at hkx hx2 q0 q1 q2 q3 q4 q5 q6 q7 q8
          have hpair : ts[k] = (t, .slice va t.ac.length vc) := Prod.ext ht.symm hx2
          rw [hpair] at hmem
          have HMEM := Lib.hid hmem
          have TF := Lib.hid (take_filter (tries e len) (fun t => t.co && decide (t.en = (i : Int))) hkx)
          clear hpair ht hkx hx2 hmem HI
          obtain ⟨xth, xtx, xat, xst, xb, xen, xre, xco, xac⟩ := t
          dsimp only at q0 q1 q2 q3 q4 q5 q6 q7 q8 HMEM TF
          have HOWN := Lib.hid (HROW.out.owns tvC_len (R := []) (by rw [List.append_nil]; exact HO.out))
          have hyn : ys.length ≤ 2000000 := by have := HN.out; have := HLEN.out; omega
          have hsz := HO.out.grow.size
          have hk6 : (k : Int) < 1000000 := by omega
          cases xco with
          | true =>
            by_cases hen : xen = (i : Int)
            · have fe : (xen == (i : Int)) = true := by simp [hen]
              have HP := Lib.hid (show ((tries e len).take (k + 1)).filter (fun t => t.co && decide (t.en = (i : Int))) = ((tries e len).take k).filter (fun t => t.co && decide (t.en = (i : Int))) ++ [(⟨xth, xtx, xat, xst, xb, xen, xre, true, xac⟩ : Tr)] by rw [TF.out, if_pos (by simp [hen])])
              clear hen TF
              go_wp2_with (first | (at_builtin; refine wpList_append_at _ rfl (.tmp 35) (.tmp 40) 59 rfl u1.heap.size 36 i0 (.agg #[.int .i64 0, .int .i64 0, .int .i64 0, .int .i64 0, .int .i64 0, .int .i64 0, .int .i64 0, .bool false, .slice none 0 0]) 9 88 Try.underlying59 hi.out hz0.out hz1.out hz2.out rfl (by decide) (.slice oa ys.length oc) ys.length (rows tvC ys) rfl (HOWN.out.alloc _) ⟨wr.heap.size, 0, none⟩ 1 1 (tvC ((⟨xth, xtx, xat, xst, xb, xen, xre, true, xac⟩ : Tr), .slice va ((⟨xth, xtx, xat, xst, xb, xen, xre, true, xac⟩ : Tr)).ac.length vc)) rfl rfl (new_cells wr _ _) (by intro u hu; simp [tvC, trC] at hu; rcases hu with rfl | rfl | rfl | rfl | rfl | rfl | rfl | rfl | rfl <;> rfl) (by unfold maxLen; omega) (by omega) (by simp; omega) (by decide) ?_; intro g' c' w5 ho hg hv; obtain ⟨L', r1, r2⟩ := ts_snoc (x := ((⟨xth, xtx, xat, xst, xb, xen, xre, true, xac⟩ : Tr), .slice va ((⟨xth, xtx, xat, xst, xb, xen, xre, true, xac⟩ : Tr)).ac.length vc)) HROW.out HO.out ho hg hv; have R1 := Lib.hid r1; have R2 := Lib.hid r2; clear ho hg hv r1 r2) | go_in)
              go_roundw
              case rel => exact ⟨k + 1, ys ++ [((⟨xth, xtx, xat, xst, xb, xen, xre, true, xac⟩ : Tr), .slice va xac.length vc)], L', by omega, by go_num, R1, R2, by show _ = _; rw [List.map_append, HYS.out, HP.out, List.append_assoc]; rfl, in_snoc HIN.out HMEM.out, by show _ ≤ _; rw [List.length_append]; have := HN.out; simp; omega⟩
              case measure => simp [intOf] <;> omega
            · have fe : (xen == (i : Int)) = false := by simp [hen]
              have HP := Lib.hid (show ((tries e len).take (k + 1)).filter (fun t => t.co && decide (t.en = (i : Int))) = ((tries e len).take k).filter (fun t => t.co && decide (t.en = (i : Int))) by rw [TF.out, if_neg (by simp [hen]), List.append_nil])
              clear hen TF
              go_wp2
              go_roundw
              case rel => exact ⟨k + 1, ys, L, by omega, by go_num, HROW, HO, by show _ = _; rw [HYS.out, HP.out], HIN, by show _ ≤ _; have := HN.out; omega⟩
              case measure => simp [intOf] <;> omega
          | false =>
            have HP := Lib.hid (show ((tries e len).take (k + 1)).filter (fun t => t.co && decide (t.en = (i : Int))) = ((tries e len).take k).filter (fun t => t.co && decide (t.en = (i : Int))) by rw [TF.out, if_neg (by simp), List.append_nil])
            clear TF
            go_wp2
            go_roundw
            case rel => exact ⟨k + 1, ys, L, by omega, by go_num, HROW, HO, by show _ = _; rw [HYS.out, HP.out], HIN, by show _ ≤ _; have := HN.out; omega⟩
            case measure => simp [intOf] <;> omega
        · obtain rfl : k = ts.length := by omega
          go_wp2
          go_roundw
          case rel => exact ⟨i + 1, ys, L, by omega, by go_num, HROW, HO, by (show _ = _; rw [HYS.out, HLT.out, List.take_length, HB.out, List.range_succ, List.flatMap_append]; simp), HIN, by show _ ≤ _; have := HN.out; omega⟩
          case measure => simp [intOf] <;> omega
    · obtain rfl : i = len := by omega
      go_wp2
      go_ret
      obtain ⟨a', c', hv, HZ⟩ := TsAt.of_row HROW.out (R := []) (by rw [List.append_nil]; exact HO.out) (fun x hx => (HT.out.grown HO.out.grow).2 x (HIN.out x hx))
      cases hv
      exact ⟨_, _, ys, rfl, HZ, HYS.out, gb_trans g1.out HO.out.grow, owns_zero (HROW.out.owns tvC_len (R := []) (by rw [List.append_nil]; exact HO.out)), fun x hx => ownsRow_keep (HAA.out x (HIN.out x hx)) (fun k e => HO.out.grow.block k ((HAA.out x (HIN.out x hx)).lt k e).2 (by simp))⟩

theorem comms_doc (a : Option Addr) (len cap : Nat) (e : Evs) (w : World) (hl : IsEvs w a len e) (hr : right e len = true) (hlen : len ≤ 1000) :
    Calls Try.prog 26 #[.slice a len cap] w fun r w' => ∃ a' c ys, r = .returned (.slice a' ys.length c) ∧ Hid (TsAt w' a' ys) ∧ Hid (ys.map Prod.fst = commsD e len) ∧ Hid (w.grownBy w' none) :=
  (comms_docA a len cap e w hl hr hlen).mono fun _ _ ⟨a', c, ys, h0, h1, h2, h3, _⟩ => ⟨a', c, ys, h0, h1, h2, h3⟩

end Go.Proofs.Ytdohepenmejcaaa.hs

/- The document's own answer of chapter 18: States. -/
namespace Go.Proofs.Ytdohepenmejcaaa.md
open Go Go.RowKit Go.Proofs.Ytdohepenmejcaaa.base Go.Proofs.Ytdohepenmejcaaa.hs Go.Proofs.Ytdohepenmejcaaa.lg Go.Maps
set_option linter.unusedVariables false
set_option maxRecDepth 100000

/-- At the head of a round. -/
structure DS (w : World) (a1 : Option Addr) (n c1 : Nat) (z : Nat → Int) (cs : List (List Acc)) (ta : Option Addr) (tc : Nat) (ys : List (Tr × Value)) (g oc : Nat) (us : List Value) (wr : World) : Prop where
  row : wr.ownsRow w.heap.size 22 1 (.slice (some ⟨g, 0, none⟩) us.length oc) us.length us
  fst : us[0]? = some (.slice a1 n c1)
  each : ∀ i u, 0 < i → us[i]? = some u → RowAt wr 0 n (stAt z cs i) u
  tr : wr.ownsRow 0 36 9 (.slice ta ys.length tc) ys.length (rows tvC ys)
  ac : ∀ x ∈ ys, wr.ownsRow 0 65 6 x.2 x.1.ac.length (rows accC x.1.ac)
  grow : w.grownBy wr none

section
variable {w wr w' u5 w6 : World} {a1 ta : Option Addr} {n c1 tc g oc : Nat} {z : Nat → Int} {cs : List (List Acc)} {ys : List (Tr × Value)} {us : List Value}
theorem DS.grown (h : DS w a1 n c1 z cs ta tc ys g oc us wr) (k : wr.grownBy w' none) : DS w a1 n c1 z cs ta tc ys g oc us w' :=
  ⟨ownsRow_keep h.row (fun i e => k.block i (h.row.lt i e).2 (by simp)), h.fst, fun i u h0 hu => (by
    obtain ⟨a, c, e, hr⟩ := h.each i u h0 hu
    exact ⟨a, c, e, ownsRow_keep hr (fun i e => k.block i (hr.lt i e).2 (by simp))⟩), ownsRow_keep h.tr (fun i e => k.block i (h.tr.lt i e).2 (by simp)), fun x hx => ownsRow_keep (h.ac x hx) (fun i e => k.block i ((h.ac x hx).lt i e).2 (by simp)), gb_trans h.grow k⟩
theorem DS.val (h : DS w a1 n c1 z cs ta tc ys g oc us wr) (hz : IsNums .i64 w a1 n z) {k : Nat} (hk : k < us.length) : ∃ ak ck, us[k]? = some (.slice ak n ck) ∧ IsNums .i64 wr ak n (stAt z cs k) := by
  by_cases h0 : k = 0
  · subst h0
    exact ⟨a1, c1, h.fst, hz.grown h.grow⟩
  · obtain ⟨a, c, e, hr⟩ := h.each k us[k] (by omega) (List.getElem?_eq_getElem hk)
    rw [e] at hr
    exact ⟨a, c, by rw [List.getElem?_eq_getElem hk, e], IsNums.of_own hr⟩
theorem DS.app (h : DS w a1 n c1 z cs ta tc ys g oc us wr) {a5 : Option Addr} {c5 g' c' : Nat} (g5 : wr.grownBy u5 none) (r5 : u5.ownsRow wr.heap.size 2 1 (.slice a5 n c5) n (vals (stAt z cs us.length) n))
    (ho : w6.ownsRow w.heap.size 22 1 (.slice (some ⟨g', 0, none⟩) (us.length + 1) c') (us.length + 1) (us ++ [.slice a5 n c5])) (hg : (u5.alloc (.cells #[.slice a5 n c5] 22)).grownBy w6 (some g)) :
    DS w a1 n c1 z cs ta tc ys g' c' (us ++ [.slice a5 n c5]) w6 := by
  have H := h.grown (gb_alloc g5 (.cells #[.slice a5 n c5] 22))
  have hrow := H.row
  have keep : ∀ {B E sz v m xs}, (u5.alloc (.cells #[.slice a5 n c5] 22)).ownsRow B E sz v m xs → E ≠ 22 → w6.ownsRow B E sz v m xs := fun {B E sz v m xs} hr hne => ownsRow_keep hr (fun i e => hg.block i (hr.lt i e).2 (fun e2 => by
    cases e2
    exact row_ne hr hrow hne _ e rfl))
  have hlen : us.length ≠ 0 := fun e => by
    have := h.fst
    rw [List.getElem?_eq_none (by omega)] at this
    cases this
  refine ⟨by rw [List.length_append]; exact ho, by rw [List.getElem?_append_left (by omega)]; exact h.fst, fun i u h0 hu => ?_, keep H.tr (by decide), fun x hx => keep (H.ac x hx) (by decide), gb_overO H.grow hg (fun i e => by cases e; exact (H.row.lt g rfl).1)⟩
  by_cases hi : i < us.length
  · rw [List.getElem?_append_left hi] at hu
    obtain ⟨a, c, e, hr⟩ := H.each i u h0 hu
    exact ⟨a, c, e, keep hr (by decide)⟩
  · rw [List.getElem?_append_right (by omega)] at hu
    have hi0 : i - us.length = 0 := by have := (List.getElem?_eq_some_iff.1 hu).1; simp at this; omega
    rw [hi0] at hu
    have hi1 : i = us.length := by omega
    subst hi1
    simp at hu
    subst hu
    have r6 := ownsRow_drop r5 (Nat.zero_le _)
    exact ⟨a5, c5, rfl, keep (r6.alloc _) (by decide)⟩
theorem DS.sts (h : DS w a1 n c1 z cs ta tc ys g oc us wr) (hz : IsNums .i64 w a1 n z) : StsAt wr (some ⟨g, 0, none⟩) us.length n (fun i => stAt z cs i) := by
  have hlt := (h.row.lt g rfl).2
  refine .inr ⟨g, 0, rfl, hlt, fun i hi => ?_⟩
  obtain ⟨ak, ck, e1, e2⟩ := h.val hz hi
  refine ⟨ak, ck, ?_, e2⟩
  rw [Nat.zero_add, ← e1]
  exact h.row.cellAt i (by omega)
end

set_option maxHeartbeats 4000000 in
theorem refstates_any (a1 : Option Addr) (n c1 : Nat) (z : Nat → Int) (a2 : Option Addr) (len cap : Nat) (e : Evs) (w : World) (hz : IsNums .i64 w a1 n z) (hl : IsEvs w a2 len e) (hn : n ≤ 1000) (hlen : len ≤ 1000) :
    Calls Try.prog 10 #[.slice a1 n c1, .slice a2 len cap] w fun r w' => ∃ a m c, r = .returned (.slice a m c) ∧ Hid (m = (cacs e len).length + 1) ∧ Hid (StsAt w' a m n (fun i => stAt z (cacs e len) i)) ∧ Hid (w.grownBy w' none) := by
  have HZ := Lib.hid hz
  have HL := Lib.hid hl
  clear hz hl
  obtain ⟨i0, hi0, hz00, hz10, hz20⟩ := info_parts infoRow
  have hi := Lib.hid hi0
  have hz0 := Lib.hid hz00
  have hz1 := Lib.hid hz10
  have hz2 := Lib.hid hz20
  clear hi0 hz00 hz10 hz20
  have BR := Lib.hid (Blk.made w 22 #[.slice a1 n c1])
  have GA := Lib.hid (World.grownBy_alloc w (.cells #[.slice a1 n c1] 22) none)
  have RO : Hid ((w.alloc (.cells #[.slice a1 n c1] 22)).ownsRow w.heap.size 22 1 (.slice (some ⟨w.heap.size, 0, none⟩) 1 1) 1 [.slice a1 n c1]) := Lib.hid ⟨rfl, .inr ⟨w.heap.size, 1, #[.slice a1 n c1], rfl, Nat.le_refl _, heap_alloc_new w _, Nat.le_refl _, by unfold maxLen; omega, rfl, rfl⟩⟩
  go_enter Try.func10, Try.ntmps10
  go_wp2_with fail
  cases hr : right e len with
  | false =>
    refine (right_doc a2 len cap e _ (HL.out.grown GA.out) (by omega)).mono ?_
    rw [hr]
    rintro r u1 ⟨rfl, g1⟩
    have HC := Lib.hid (show cacs e len = [] by unfold cacs; rw [if_neg (by rw [hr]; simp)])
    go_wp2
    go_ret
    refine ⟨some ⟨w.heap.size, 0, none⟩, 1, 1, rfl, (by show _ = _; rw [HC.out]; rfl), ?_, gb_trans GA.out g1.out⟩
    show StsAt _ _ _ _ _
    rw [HC.out]
    have BR1 := BR.out.grown g1.out (by simp)
    refine .inr ⟨w.heap.size, 0, rfl, BR1.lt, fun i hi => ?_⟩
    obtain rfl : i = 0 := by omega
    exact ⟨a1, c1, BR1.cell 0, HZ.out.grown (gb_trans GA.out g1.out)⟩
  | true =>
    refine (right_doc a2 len cap e _ (HL.out.grown GA.out) (by omega)).mono ?_
    rw [hr]
    rintro r u1 ⟨rfl, g1⟩
    have G1 := Lib.hid (gb_trans GA.out g1.out)
    go_wp2_with fail
    refine (comms_docA a2 len cap e _ (HL.out.grown G1.out) hr (by omega)).mono ?_
    rintro r u2 ⟨ta, tc, ys, rfl, hT, hY, g2, hrt, hra⟩
    have HCS := Lib.hid (show ys.map (fun x => x.1.ac) = cacs e len by unfold cacs; rw [if_pos hr, ← hY.out, List.map_map]; rfl)
    have HCL := Lib.hid (show (cacs e len).length = ys.length by rw [← HCS.out, List.length_map])
    have hyl : ys.length ≤ 1000 := by have h1 := HCL.out; have h2 := cacs_len e len; omega
    have hal : Hid (∀ x ∈ ys, x.1.ac.length ≤ 1000) := Lib.hid (fun x hx => by
      have h1 : x.1 ∈ commsD e len := by rw [← hY.out]; exact List.mem_map_of_mem hx
      have h2 := (commsD_perm e hr).mem_iff.1 h1
      obtain ⟨b, _, _, hb⟩ := (tries_mem e len x.1).1 (List.mem_filter.1 h2).1
      rw [← hb]
      exact Nat.le_trans (hs.trAt_ac e b len) hlen)
    have G12 := Lib.hid (gb_trans g1.out g2.out)
    have D0 : Hid (DS w a1 n c1 z (cacs e len) ta tc ys w.heap.size 1 [.slice a1 n c1] u2) := Lib.hid ⟨ownsRow_keep RO.out (fun k e => G12.out.block k (RO.out.lt k e).2 (by simp)), rfl, fun i u h0 hu => (by
      have := (List.getElem?_eq_some_iff.1 hu).1
      simp at this
      omega), hrt.out, hra.out, gb_trans G1.out g2.out⟩
    clear RO BR hT hrt hra g1 g2 G12 hr
    go_wp2
    go_loopw [5, 7] (fun ov iv wr => ∃ (k g oc : Nat) (us : List Value), k ≤ ys.length ∧ iv = .int .i64 k ∧ ov = .slice (some ⟨g, 0, none⟩) us.length oc ∧ Hid (us.length = k + 1) ∧ Hid (DS w a1 n c1 z (cacs e len) ta tc ys g oc us wr)) (fun _ iv _ => (ys.length - intOf iv).toNat)
    case atStart => exact ⟨0, w.heap.size, 1, [.slice a1 n c1], by omega, rfl, rfl, rfl, D0⟩
    case round =>
      obtain ⟨k, g, oc, us, hk, rfl, rfl, HUL, D⟩ := hrel
      clear D0
      by_cases hlt : k < ys.length
      · have hlt' : (k : Int) < (ys.length : Int) := by omega
        have hk6 : (k : Int) < 1000000 := by omega
        have hku : k < us.length := by have := HUL.out; omega
        have hku' : (k : Int) < (us.length : Int) := by omega
        obtain ⟨ak, ck, e1, NV⟩ := D.out.val HZ.out hku
        have HNV := Lib.hid NV
        have x0 : wr.cell? ⟨g, k, none⟩ = some (.slice ak n ck) := (D.out.row.cellAt k (by omega)).trans e1
        have hgl := (D.out.row.lt g rfl).2
        have hgk := List.getElem?_eq_getElem hlt
        have hmem : ys[k] ∈ ys := List.getElem_mem hlt
        obtain ⟨b, off, rfl, hb, hc⟩ := (IsL.of_own D.out.tr tvC_len rfl).at tvC_len hgk
        have hcs : (cacs e len)[k]? = some ys[k].1.ac := by rw [← HCS.out, List.getElem?_map, hgk]; rfl
        have hac := D.out.ac ys[k] hmem
        have hacl := hal.out ys[k] hmem
        have ST := Lib.hid (stAt_step z hcs)
        obtain ⟨va, vc, hv⟩ := owns_slice hac
        obtain ⟨t, ht⟩ : ∃ t, t = ys[k].1 := ⟨_, rfl⟩
        have hyk : ys[k] = (t, .slice va t.ac.length vc) := Prod.ext ht.symm (by rw [ht]; exact hv)
        rw [hyk] at hc hac hacl ST
        have HAC := Lib.hid (IsL.of_own hac accC_len rfl)
        have d0 : wr.cell? ⟨b, off + k * 9, none⟩ = some (.int .i64 t.th) := hc 0 _ rfl
        have d1 := hc 1 _ rfl; have d2 := hc 2 _ rfl; have d3 := hc 3 _ rfl; have d4 := hc 4 _ rfl; have d5 := hc 5 _ rfl; have d6 := hc 6 _ rfl; have d7 := hc 7 _ rfl; have d8 := hc 8 _ rfl
        dsimp only at hacl ST HAC
        have hul : us.length ≤ 2000 := by have := HUL.out; omega
        clear hgk hmem hcs hac hv ht hyk hc e1 NV
        go_wp2
        go_region_law (first
          | (refine step_call rfl 17 #[.slice ak n ck, .agg #[.int .i64 t.th, .int .i64 t.tx, .int .i64 t.at_, .int .i64 t.st, .int .i64 t.b, .int .i64 t.en, .int .i64 t.re, .bool t.co, .slice va t.ac.length vc]] (by simp [Act.eval, go_sem]) (refapply_any ak n ck (stAt z (cacs e len) k) t va vc wr.drew (HNV.out.grown (gb_drew (gb_refl wr none))) (HAC.out.grown (gb_drew (gb_refl wr none))) (by omega) (by omega)) ?_; rintro r u5 ⟨a5, c5, rfl, hr5, g5⟩; refine ⟨_, rfl, ?_⟩; have D5 := Lib.hid ((D.out.grown (gb_drew (gb_refl wr none))).grown g5.out))
          | (refine step_append_at rfl (.tmp 22) (.tmp 32) 25 rfl w.heap.size 22 i0 (.slice none 0 0) 1 24 Try.underlying25 hi.out hz0.out hz1.out hz2.out rfl (by decide) (.slice (some ⟨g, 0, none⟩) us.length oc) us.length us rfl (D5.out.row.alloc _) ⟨u5.heap.size, 0, none⟩ 1 1 [.slice a5 n c5] rfl rfl (new_cells u5 _ _) (by intro u hu; simp at hu; subst hu; rfl) (by unfold maxLen; omega) (by omega) (by have := D5.out.grow.size; simp; omega) (by decide) ?_; intro g' c' w6 ho hg hv))
        all_goals
          go_wp2
          go_roundw
          case rel =>
            refine ⟨k + 1, g', c', us ++ [.slice a5 n c5], by omega, by go_num, by rw [List.length_append]; rfl, by show _ = _; rw [List.length_append, HUL.out]; rfl, Lib.hid ((D.out.grown (gb_drew (gb_refl wr none))).app g5.out ?_ ho hg)⟩
            rw [HUL.out, ST.out]
            exact hr5.out
          case measure => simp [intOf]; omega
      · obtain rfl : k = ys.length := by omega
        go_wp2
        go_ret
        exact ⟨some ⟨g, 0, none⟩, us.length, oc, rfl, (by show _ = _; rw [HCL.out]; exact HUL.out), D.out.sts HZ.out, D.out.grow⟩
end Go.Proofs.Ytdohepenmejcaaa.md

/- What a walk is told of an argument that is a struct of numbers and bools, by value, and of a slice of such. Plain facts on memory, of no program. -/
namespace Go.Proofs.Ytdohepenmejcaaa.base
open Go Go.RowKit Go.ChangeShapes Go.WideShapes Go.Deep

/-- Field j: a bool where isB says so, else an int. -/
def mixed (isB : Nat → Bool) (z : Nat → Int) (y : Nat → Bool) (j : Nat) : Value := if isB j then .bool (y j) else .int .i64 (z j)

/-- A slice of structs of n fields, ints and bools. -/
def IsMix (n : Nat) (isB : Nat → Bool) (w : World) (a : Option Addr) (len cap : Nat) (z : Nat → Nat → Int) (y : Nat → Nat → Bool) : Prop :=
  len ≤ cap ∧ cap ≤ maxLen ∧ (len = 0 ∨ ∃ b off, a = some ⟨b, off, none⟩ ∧ b < w.heap.size ∧ ∀ i j, i < len → j < n → w.cell? ⟨b, off + (i * n + j), none⟩ = some (mixed isB (z i) (y i) j) ∧ (Lit.int .i64 (z i j)).wf = true)

theorem IsMix.below {n : Nat} {isB : Nat → Bool} {w w' : World} {a : Option Addr} {len cap : Nat} {z : Nat → Nat → Int} {y : Nat → Nat → Bool} (h : IsMix n isB w a len cap z y) (g : Below w.heap.size w w') : IsMix n isB w' a len cap z y := by
  obtain ⟨q1, q2, q3⟩ := h
  refine ⟨q1, q2, ?_⟩
  rcases q3 with q3 | ⟨b, off, rfl, hb, hc⟩
  · exact .inl q3
  · exact .inr ⟨b, off, rfl, Nat.lt_of_lt_of_le hb g.size, fun i j hi hj => ⟨(g.cell (p := ⟨b, off + (i * n + j), none⟩) hb).trans (hc i j hi hj).1, (hc i j hi hj).2⟩⟩

section
variable {H : Type} {enc : TypeId × Value → H} {P : Program} {w : World} {base : Nat} {held : Bool} {t e : TypeId} {fuel : Nat} {a : Option Addr} {len cap : Nat} {x : DataW H × List MemPlace}

/-- The fields of a struct's cells. -/
theorem mixed_of {fs : Array Field} {ti tb : TypeId} {n : Nat} {isB : Nat → Bool} {cs : List Value} (he : P.underlying t = some (.struct fs)) (hi : P.underlying ti = some (.int .i64)) (hb : P.underlying tb = some .bool) (hc1 : P.cellsOf ti = 1) (hc2 : P.cellsOf tb = 1)
    (hfs : ∀ j, j < n → (fs[j]?.map fun f => (f.offset, f.type)) = some (j, if isB j then tb else ti))
    (h : DataW.trod enc P w base (fun _ => true) held fuel t cs = some x) : ∃ (z : Nat → Int) (y : Nat → Bool), ∀ j, j < n → cs[j]? = some (mixed isB z y j) ∧ (Lit.int .i64 (z j)).wf = true := by
  obtain ⟨xs, n', _, _, hl1, _, hf⟩ := DataW.trod_struct he h
  obtain ⟨g, hg⟩ := choose_lt (α := Int × Bool) (n := n) (p := fun j v => cs[j]? = some (if isB j then .bool v.2 else .int .i64 v.1) ∧ (Lit.int .i64 v.1).wf = true) (fun j hj => by
    obtain ⟨fj, hfj, e2⟩ := Option.map_eq_some_iff.1 (hfs j hj)
    simp only [Prod.mk.injEq] at e2
    have e3 := hf j fj hfj
    have hc : P.cellsOf fj.type = 1 := by rw [e2.2]; split <;> assumption
    rw [hc, e2.1] at e3
    have hxs : j < xs.length := by
      rcases Nat.lt_or_ge j xs.length with h' | h'
      · exact h'
      · have := (Array.getElem?_eq_some_iff.1 hfj).1
        omega
    rw [List.getElem?_eq_getElem hxs] at e3
    have key : ∀ v : Value, (cs.drop j).take 1 = [v] → cs[j]? = some v := fun v hv => by
      have h0 : ((cs.drop j).take 1)[0]? = some v := by rw [hv]; rfl
      simpa using h0
    by_cases hB : isB j = true
    · rw [e2.2, if_pos hB] at e3
      obtain ⟨v, hv, _⟩ := DataW.trod_bool hb e3
      exact ⟨(0, v), by rw [if_pos hB]; exact key _ hv, (by decide : (Lit.int .i64 0).wf = true)⟩
    · rw [e2.2, if_neg hB] at e3
      obtain ⟨v, hv, _, hw⟩ := DataW.trod_int hi e3
      exact ⟨(v, false), by rw [if_neg hB]; exact key _ hv, hw⟩)
  exact ⟨fun j => (g j).1, fun j => (g j).2, fun j hj => hg j hj⟩

/-- A struct by value. -/
theorem isMix_of {fs : Array Field} {ti tb : TypeId} {n : Nat} (isB : Nat → Bool) {cs : Array Value} (he : P.underlying t = some (.struct fs)) (hi : P.underlying ti = some (.int .i64)) (hb : P.underlying tb = some .bool) (hc1 : P.cellsOf ti = 1) (hc2 : P.cellsOf tb = 1) (hsz : cs.size = n)
    (hfs : ∀ j, j < n → (fs[j]?.map fun f => (f.offset, f.type)) = some (j, if isB j then tb else ti))
    (h : DataW.trod enc P w base (fun _ => true) held fuel t (Value.agg cs).cells.toList = some x) : ∃ (z : Nat → Int) (y : Nat → Bool), (∀ j, j < n → (Lit.int .i64 (z j)).wf = true) ∧ cs = ⟨(List.range n).map (mixed isB z y)⟩ := by
  obtain ⟨z, y, hz⟩ := mixed_of (n := n) he hi hb hc1 hc2 hfs h
  refine ⟨z, y, fun j hj => (hz j hj).2, ?_⟩
  apply Array.ext'
  apply List.ext_getElem?
  intro j
  by_cases hj : j < n
  · have := (hz j hj).1
    simp only [Value.cells] at this
    rw [this]
    simp [hj]
  · rw [List.getElem?_eq_none (by simpa [hsz] using hj), List.getElem?_eq_none (by simpa using hj)]

/-- A slice of such. -/
theorem isMixes_of {fs : Array Field} {ti tb : TypeId} {n : Nat} (isB : Nat → Bool) (ht : P.underlying t = some (.slice e)) (he : P.underlying e = some (.struct fs)) (hi : P.underlying ti = some (.int .i64)) (hb : P.underlying tb = some .bool) (hc1 : P.cellsOf ti = 1) (hc2 : P.cellsOf tb = 1) (hc : P.cellsOf e = n) (hn : 0 < n)
    (hfs : ∀ j, j < n → (fs[j]?.map fun f => (f.offset, f.type)) = some (j, if isB j then tb else ti))
    (h : DataW.trod enc P w base (fun _ => true) held fuel t (Value.slice a len cap).cells.toList = some x) : ∃ z y, IsMix n isB w a len cap z y := by
  rcases open_slice ht h with ⟨hcs, _⟩ | ⟨c, l, m, k, f, D, Pl, hcs, _, hl, hm, hk, _, hel⟩
  · simp [Value.cells] at hcs
    obtain ⟨rfl, rfl, rfl⟩ := hcs
    exact ⟨fun _ _ => 0, fun _ _ => false, Nat.le_refl _, Nat.zero_le _, .inl rfl⟩
  · simp [Value.cells] at hcs
    obtain ⟨rfl, rfl, rfl⟩ := hcs
    simp only [if_true] at hk
    subst hk
    rw [hc] at hel
    obtain ⟨g, hg⟩ := choose_lt (α := (Nat → Int) × (Nat → Bool)) (n := len) (p := fun i v => ∀ j, j < n → w.cell? (c.add (i * n + j)) = some (mixed isB v.1 v.2 j) ∧ (Lit.int .i64 (v.1 j)).wf = true) (fun i hi' => by
      obtain ⟨cs', h1, h2⟩ := hel i (by omega)
      obtain ⟨_, hlen, hcell⟩ := World.cells?_some h1
      obtain ⟨z, y, hz⟩ := mixed_of (n := n) he hi hb hc1 hc2 hfs h2
      refine ⟨(z, y), fun j hj => ⟨?_, (hz j hj).2⟩⟩
      rw [← add_add, hcell j hj]
      exact (hz j hj).1)
    refine ⟨fun i => (g i).1, fun i => (g i).2, hl, hm, ?_⟩
    by_cases h0 : len = 0
    · exact .inl h0
    · obtain ⟨b, off, hbo⟩ := plain_of (hg 0 (by omega) 0 (by omega)).1
      have hb' := World.block_lt_of_cell? _ _ (hg 0 (by omega) 0 (by omega)).1
      have hc0 : c = ⟨b, off, none⟩ := by simpa [Addr.add] using hbo
      subst hc0
      refine .inr ⟨b, off, rfl, by simpa [Addr.add] using hb', fun i j hi hj => ⟨by rw [← add_eq]; exact (hg i hi j hj).1, (hg i hi j hj).2⟩⟩
end
end Go.Proofs.Ytdohepenmejcaaa.base
