/- The document's own answer of chapter 17: Right. -/
import Derived.Test.YtdohepenmejcaaaHv
import Derived.Deep.RegionHeld3
import Derived.Deep.CutRange
namespace Go.Proofs.Ytdohepenmejcaaa.hs
open Go Go.RowKit Go.Proofs.Ytdohepenmejcaaa.base Go.Maps
set_option linter.unusedVariables false
set_option maxRecDepth 100000

theorem eqb_swap (x y : Int) : (x == y) = decide (y = x) := by
  by_cases h : x = y
  · subst h
    simp
  · have h' : ¬ y = x := fun e => h e.symm
    rw [decide_eq_false h']
    simpa using h
theorem may_open (e : Evs) (k : Nat) (h : opB e (lastI e k (e k).th) k = true) : may e k = (decide (2 ≤ (e k).k) && decide ((e k).k ≤ 6) && ownE (e (lastI e k (e k).th).toNat) (e k)) := by
  unfold opB at h
  rw [Bool.and_eq_true, decide_eq_true_eq] at h
  have ho := opn_ref e k (e k).th
  rw [if_pos h] at ho
  unfold may
  rw [ho]
  have ht := (opn_spec e _ _ _ ho).2.2.1
  generalize (lastI e k (e k).th).toNat = b at *
  unfold ownE
  simp only [ht, decide_true, Bool.true_and]
  rw [eqb_swap (e k).tx, eqb_swap (e k).at_, Bool.and_assoc, Bool.and_assoc]
theorem may_shut (e : Evs) (k : Nat) (h : opB e (lastI e k (e k).th) k = false) : may e k = (((e k).k == 1 && (e k).at_ == IntKind.i64.wrap (cnt e k (e k).th (e k).tx + 1)) || (e k).k == 7) := by
  unfold opB at h
  have ho := opn_ref e k (e k).th
  rw [if_neg (by rintro ⟨h1, h2⟩; simp [h1, h2] at h)] at ho
  unfold may
  rw [ho]

theorem right_no (e : Evs) {k len : Nat} (h : k < len) (hm : may e k = false) : right e len = false := by
  cases hr : right e len with
  | false => rfl
  | true => rw [right_may e hr h] at hm; cases hm

set_option maxHeartbeats 8000000 in
theorem right_doc (a : Option Addr) (len cap : Nat) (e : Evs) (w : World) (hl : IsEvs w a len e) (hlen : len ≤ 1000000) :
    Calls Try.prog 25 #[.slice a len cap] w fun r w' => r = .returned (.bool (right e len)) ∧ Hid (w.grownBy w' none) := by
  have HL := Lib.hid hl
  have HLEN := Lib.hid hlen
  clear hl hlen
  go_enter Try.func25, Try.ntmps25
  go_wp2_with fail
  go_loopw [3] (fun iv wr => ∃ k : Nat, k ≤ len ∧ iv = .int .i64 k ∧ Hid (right e k = true) ∧ Hid (w.grownBy wr none)) (fun iv _ => (len - intOf iv).toNat)
  case atStart => exact ⟨0, by omega, rfl, rfl, gb_refl _ _⟩
  case round =>
    obtain ⟨k, hk, rfl, HR, G⟩ := hrel
    by_cases hlt : k < len
    · obtain ⟨eb, off, rfl, heb, fe0⟩ := evsAt (HL.out.grown G.out) (show 0 < len by omega)
      have FE := Lib.hid fe0
      obtain ⟨c0, c1, c2, c3, c4, c5, c6⟩ := fe0 k hlt
      clear fe0
      have hlt' : (k : Int) < (len : Int) := by omega
      have hlk : (k : Int) < 1000000 := by have := HLEN.out; omega
      have MO := Lib.hid (may_open e k)
      have MS := Lib.hid (may_shut e k)
      have NO := Lib.hid (fun h => right_no e hlt h)
      have YES := Lib.hid (show may e k = true → right e (k + 1) = true from fun h => by rw [right, HR.out, h]; rfl)
      have hL1 := lastI_lt e k (e k).th
      have LA := Lib.hid (fun u h => last_any u (some ⟨eb, off, none⟩) len cap e k (e k).th h (by omega) (by have := HLEN.out; omega))
      generalize lastI e k (e k).th = LI at *
      obtain ⟨hLa, hLb⟩ := hL1
      have OA := Lib.hid (fun u h => open_any u (some ⟨eb, off, none⟩) len cap e LI k h hLa hLb (by omega) (by have := HLEN.out; omega))
      have PO := Lib.hid (show opB e LI k = true → 0 ≤ LI from fun h => by unfold opB at h; rw [Bool.and_eq_true, decide_eq_true_eq] at h; exact h.1)
      generalize opB e LI k = o at *
      have E1 := Lib.hid (Blk.made wr 58 #[.int .i64 ((e k).k), .int .i64 ((e k).th), .int .i64 ((e k).tx), .int .i64 ((e k).at_), .int .i64 ((e k).ob), .int .i64 ((e k).va), .int .i64 ((e k).re)])
      have G1 := Lib.hid (gb_alloc G.out (.cells #[.int .i64 ((e k).k), .int .i64 ((e k).th), .int .i64 ((e k).tx), .int .i64 ((e k).at_), .int .i64 ((e k).ob), .int .i64 ((e k).va), .int .i64 ((e k).re)] 58))
      go_upto_region 5 with fail
      generalize wr.alloc (.cells #[.int .i64 ((e k).k), .int .i64 ((e k).th), .int .i64 ((e k).tx), .int .i64 ((e k).at_), .int .i64 ((e k).ob), .int .i64 ((e k).va), .int .i64 ((e k).re)] 58) = v at *
      generalize wr.heap.size = p at *
      have p_lt := E1.out.lt
      have x0 : v.cell? ⟨p, 0, none⟩ = some (.int .i64 (e k).k) := E1.out.cell 0; have x1 : v.cell? ⟨p, 1, none⟩ = some (.int .i64 (e k).th) := E1.out.cell 1; have x2 : v.cell? ⟨p, 2, none⟩ = some (.int .i64 (e k).tx) := E1.out.cell 2; have x3 : v.cell? ⟨p, 3, none⟩ = some (.int .i64 (e k).at_) := E1.out.cell 3; have x4 : v.cell? ⟨p, 4, none⟩ = some (.int .i64 (e k).ob) := E1.out.cell 4; have x5 : v.cell? ⟨p, 5, none⟩ = some (.int .i64 (e k).va) := E1.out.cell 5; have x6 : v.cell? ⟨p, 6, none⟩ = some (.int .i64 (e k).re) := E1.out.cell 6
      clear c0 c1 c2 c3 c4 c5 c6
      by_cases h1 : (e k).k = 1
      · have f1 : ((e k).k == 1) = true := by simp [h1]
        have W1 := Lib.hid h1
        clear h1
        go_upto_region 10 with (first | (go_at_call 39; refine (LA.out _ (HL.out.grown G1.out)).mono ?_; rintro r u1 ⟨rfl, g1⟩; have E2 := Lib.hid (E1.out.grown g1.out (by simp)); have G2 := Lib.hid (gb_trans G1.out g1.out)) | (go_at_call 40; refine (OA.out _ (HL.out.grown G2.out)).mono ?_; rintro r u2 ⟨rfl, g2⟩; have E3 := Lib.hid (E2.out.grown g2.out (by simp)); have G3 := Lib.hid (gb_trans G2.out g2.out); have p3 := E3.out.lt; have y0 : u2.cell? ⟨p, 0, none⟩ = some (.int .i64 (e k).k) := E3.out.cell 0; have y1 : u2.cell? ⟨p, 1, none⟩ = some (.int .i64 (e k).th) := E3.out.cell 1; have y2 : u2.cell? ⟨p, 2, none⟩ = some (.int .i64 (e k).tx) := E3.out.cell 2; have y3 : u2.cell? ⟨p, 3, none⟩ = some (.int .i64 (e k).at_) := E3.out.cell 3; have y4 : u2.cell? ⟨p, 4, none⟩ = some (.int .i64 (e k).ob) := E3.out.cell 4; have y5 : u2.cell? ⟨p, 5, none⟩ = some (.int .i64 (e k).va) := E3.out.cell 5; have y6 : u2.cell? ⟨p, 6, none⟩ = some (.int .i64 (e k).re) := E3.out.cell 6) | go_in)
        go_wp2
        clear x0 x1 x2 x3 x4 x5 x6 E1 E2 G1 G2 g1 g2 LA OA
        go_loopw [7, 8] (fun nv iv wr => ∃ j : Nat, j ≤ k ∧ iv = .int .i64 j ∧ nv = .int .i64 (cnt e j (e k).th (e k).tx) ∧ Hid (u2.grownBy wr none)) (fun _ iv _ => (k - intOf iv).toNat)
        case atStart => exact ⟨0, by omega, rfl, rfl, gb_refl _ _⟩
        case round =>
          obtain ⟨j, hj, rfl, rfl, GJ⟩ := hrel
          have EJ := Lib.hid (E3.out.grown GJ.out (by simp))
          have z0 : wr.cell? ⟨p, 0, none⟩ = some (.int .i64 (e k).k) := EJ.out.cell 0; have z1 : wr.cell? ⟨p, 1, none⟩ = some (.int .i64 (e k).th) := EJ.out.cell 1; have z2 : wr.cell? ⟨p, 2, none⟩ = some (.int .i64 (e k).tx) := EJ.out.cell 2; have z3 : wr.cell? ⟨p, 3, none⟩ = some (.int .i64 (e k).at_) := EJ.out.cell 3; have z4 : wr.cell? ⟨p, 4, none⟩ = some (.int .i64 (e k).ob) := EJ.out.cell 4; have z5 : wr.cell? ⟨p, 5, none⟩ = some (.int .i64 (e k).va) := EJ.out.cell 5; have z6 : wr.cell? ⟨p, 6, none⟩ = some (.int .i64 (e k).re) := EJ.out.cell 6
          by_cases hjk : j < k
          · have hjk' : (j : Int) < (k : Int) := by omega
            have hjl : (j : Int) < (len : Int) := by omega
            have hj2 : (j : Int) < 1000000 := by omega
            have GG := Lib.hid (gb_trans G3.out GJ.out)
            obtain ⟨c0, c1, c2, c3, c4, c5, c6⟩ := evsIn (HL.out.grown GG.out) (show j < len by omega)
            have hcn := Lib.hid (show cnt e (j + 1) (e k).th (e k).tx = if (e j).k = 1 ∧ (e j).th = (e k).th ∧ (e j).tx = (e k).tx then (e j).at_ else cnt e j (e k).th (e k).tx from rfl)
            generalize cnt e j (e k).th (e k).tx = C0 at *
            by_cases q1 : (e j).k = 1
            · have r1 : ((e j).k == 1) = true := by simp [q1]
              by_cases q2 : (e j).th = (e k).th
              · have r2 : ((e j).th == (e k).th) = true := by simp [q2]
                by_cases q3 : (e j).tx = (e k).tx
                · have r3 : ((e j).tx == (e k).tx) = true := by simp [q3]
                  have HC := Lib.hid (show cnt e (j + 1) (e k).th (e k).tx = (e j).at_ by rw [hcn.out, if_pos ⟨q1, q2, q3⟩])
                  clear q1 q2 q3; go_wp2_with fail; go_big_quiet (fail); go_wp2; go_roundw; (case rel => exact ⟨j + 1, by omega, by go_num, by rw [HC.out], gb_drewN GJ.out _⟩); (case measure => simp [intOf] <;> omega)
                · have r3 : ((e j).tx == (e k).tx) = false := by simp [q3]
                  have HC := Lib.hid (show cnt e (j + 1) (e k).th (e k).tx = C0 by rw [hcn.out, if_neg (fun h => q3 h.2.2)])
                  clear q1 q2 q3; go_wp2_with fail; go_big_quiet (fail); go_wp2; go_roundw; (case rel => exact ⟨j + 1, by omega, by go_num, by rw [HC.out], gb_drewN GJ.out _⟩); (case measure => simp [intOf] <;> omega)
              · have r2 : ((e j).th == (e k).th) = false := by simp [q2]
                have q3 := True.intro
                have HC := Lib.hid (show cnt e (j + 1) (e k).th (e k).tx = C0 by rw [hcn.out, if_neg (fun h => q2 h.2.1)])
                clear q1 q2 q3; go_wp2_with fail; go_big_quiet (fail); go_wp2; go_roundw; (case rel => exact ⟨j + 1, by omega, by go_num, by rw [HC.out], gb_drewN GJ.out _⟩); (case measure => simp [intOf] <;> omega)
            · have r1 : ((e j).k == 1) = false := by simp [q1]
              have q2 := True.intro
              have q3 := True.intro
              have HC := Lib.hid (show cnt e (j + 1) (e k).th (e k).tx = C0 by rw [hcn.out, if_neg (fun h => q1 h.1)])
              clear q1 q2 q3; go_wp2_with fail; go_big_quiet (fail); go_wp2; go_roundw; (case rel => exact ⟨j + 1, by omega, by go_num, by rw [HC.out], gb_drewN GJ.out _⟩); (case measure => simp [intOf] <;> omega)
          · obtain rfl : j = k := by omega
            cases o with
            | true =>
              have HM := Lib.hid (NO.out (by rw [MO.out rfl, W1.out]; rfl))
              go_wp2
              go_ret
              exact ⟨by rw [HM.out]; rfl, gb_trans G3.out GJ.out⟩
            | false =>
              have HS := Lib.hid (MS.out rfl)
              generalize cnt e j (e j).th (e j).tx = CN at *
              have HT := Lib.hid hjk
              obtain ⟨WN, hWN⟩ : ∃ WN, IntKind.i64.wrap (CN + 1) = WN := ⟨_, rfl⟩
              rw [hWN] at HS
              clear hjk hj hLb hLa MO MS
              by_cases q4 : (e j).at_ = WN
              · have r4 : ((e j).at_ != WN) = false := by simp [q4]
                have HM := Lib.hid (YES.out (by rw [HS.out, W1.out, q4]; simp))
                clear q4
                go_wp2
                go_roundw
                case rel => exact ⟨j + 1, by omega, by go_num, HM, gb_trans G3.out GJ.out⟩
                case measure => simp [intOf] <;> omega
              · have r4 : ((e j).at_ != WN) = true := by simp [q4]
                have HM := Lib.hid (NO.out (by rw [HS.out, W1.out]; simp [q4]))
                clear q4
                go_wp2
                go_ret
                exact ⟨by rw [HM.out]; rfl, gb_trans G3.out GJ.out⟩
      · have f1 : ((e k).k == 1) = false := by simp [h1]
        by_cases h7 : (e k).k = 7
        · have f7 : ((e k).k == 7) = true := by simp [h7]
          have W7 := Lib.hid h7
          clear h1 h7
          cases o with
          | true =>
            have HM := Lib.hid (NO.out (by rw [MO.out rfl, W7.out]; rfl))
            go_wp2_with (first | (go_at_call 39; refine (LA.out _ (HL.out.grown G1.out)).mono ?_; rintro r u1 ⟨rfl, g1⟩; have E2 := Lib.hid (E1.out.grown g1.out (by simp)); have G2 := Lib.hid (gb_trans G1.out g1.out)) | (go_at_call 40; refine (OA.out _ (HL.out.grown G2.out)).mono ?_; rintro r u2 ⟨rfl, g2⟩; have E3 := Lib.hid (E2.out.grown g2.out (by simp)); have G3 := Lib.hid (gb_trans G2.out g2.out); have p3 := E3.out.lt; have y0 : u2.cell? ⟨p, 0, none⟩ = some (.int .i64 (e k).k) := E3.out.cell 0; have y1 : u2.cell? ⟨p, 1, none⟩ = some (.int .i64 (e k).th) := E3.out.cell 1; have y2 : u2.cell? ⟨p, 2, none⟩ = some (.int .i64 (e k).tx) := E3.out.cell 2; have y3 : u2.cell? ⟨p, 3, none⟩ = some (.int .i64 (e k).at_) := E3.out.cell 3; have y4 : u2.cell? ⟨p, 4, none⟩ = some (.int .i64 (e k).ob) := E3.out.cell 4; have y5 : u2.cell? ⟨p, 5, none⟩ = some (.int .i64 (e k).va) := E3.out.cell 5; have y6 : u2.cell? ⟨p, 6, none⟩ = some (.int .i64 (e k).re) := E3.out.cell 6) | go_in)
            go_ret
            exact ⟨by rw [HM.out]; rfl, G3.out⟩
          | false =>
            have HM := Lib.hid (YES.out (by rw [MS.out rfl, W7.out]; simp))
            go_wp2_with (first | (go_at_call 39; refine (LA.out _ (HL.out.grown G1.out)).mono ?_; rintro r u1 ⟨rfl, g1⟩; have E2 := Lib.hid (E1.out.grown g1.out (by simp)); have G2 := Lib.hid (gb_trans G1.out g1.out)) | (go_at_call 40; refine (OA.out _ (HL.out.grown G2.out)).mono ?_; rintro r u2 ⟨rfl, g2⟩; have E3 := Lib.hid (E2.out.grown g2.out (by simp)); have G3 := Lib.hid (gb_trans G2.out g2.out); have p3 := E3.out.lt; have y0 : u2.cell? ⟨p, 0, none⟩ = some (.int .i64 (e k).k) := E3.out.cell 0; have y1 : u2.cell? ⟨p, 1, none⟩ = some (.int .i64 (e k).th) := E3.out.cell 1; have y2 : u2.cell? ⟨p, 2, none⟩ = some (.int .i64 (e k).tx) := E3.out.cell 2; have y3 : u2.cell? ⟨p, 3, none⟩ = some (.int .i64 (e k).at_) := E3.out.cell 3; have y4 : u2.cell? ⟨p, 4, none⟩ = some (.int .i64 (e k).ob) := E3.out.cell 4; have y5 : u2.cell? ⟨p, 5, none⟩ = some (.int .i64 (e k).va) := E3.out.cell 5; have y6 : u2.cell? ⟨p, 6, none⟩ = some (.int .i64 (e k).re) := E3.out.cell 6) | go_in)
            go_roundw
            case rel => exact ⟨k + 1, by omega, by go_num, HM, G3⟩
            case measure => simp [intOf] <;> omega
        · have f7 : ((e k).k == 7) = false := by simp [h7]
          by_cases h2 : 2 ≤ (e k).k
          · have f2 : decide (2 ≤ (e k).k) = true := by simp [h2]
            by_cases h6 : (e k).k ≤ 6
            · have f6 : decide ((e k).k ≤ 6) = true := by simp [h6]
              cases o with
              | false =>
                have HM := Lib.hid (NO.out (by rw [MS.out rfl]; simp [h1, h7]))
                clear h1 h7 h2 h6
                go_wp2_with (first | (go_at_call 39; refine (LA.out _ (HL.out.grown G1.out)).mono ?_; rintro r u1 ⟨rfl, g1⟩; have E2 := Lib.hid (E1.out.grown g1.out (by simp)); have G2 := Lib.hid (gb_trans G1.out g1.out)) | (go_at_call 40; refine (OA.out _ (HL.out.grown G2.out)).mono ?_; rintro r u2 ⟨rfl, g2⟩; have E3 := Lib.hid (E2.out.grown g2.out (by simp)); have G3 := Lib.hid (gb_trans G2.out g2.out); have p3 := E3.out.lt; have y0 : u2.cell? ⟨p, 0, none⟩ = some (.int .i64 (e k).k) := E3.out.cell 0; have y1 : u2.cell? ⟨p, 1, none⟩ = some (.int .i64 (e k).th) := E3.out.cell 1; have y2 : u2.cell? ⟨p, 2, none⟩ = some (.int .i64 (e k).tx) := E3.out.cell 2; have y3 : u2.cell? ⟨p, 3, none⟩ = some (.int .i64 (e k).at_) := E3.out.cell 3; have y4 : u2.cell? ⟨p, 4, none⟩ = some (.int .i64 (e k).ob) := E3.out.cell 4; have y5 : u2.cell? ⟨p, 5, none⟩ = some (.int .i64 (e k).va) := E3.out.cell 5; have y6 : u2.cell? ⟨p, 6, none⟩ = some (.int .i64 (e k).re) := E3.out.cell 6) | go_in)
                go_big_quiet (fail)
                go_wp2
                go_ret
                exact ⟨by rw [HM.out]; rfl, gb_drewN G3.out _⟩
              | true =>
                have HM := Lib.hid (MO.out rfl)
                rw [f2, f6, Bool.true_and, Bool.true_and] at HM
                obtain ⟨b, rfl⟩ : ∃ b : Nat, LI = b := ⟨LI.toNat, by have := PO.out rfl; omega⟩
                rw [Int.toNat_natCast] at HM
                have hbk : (b : Int) < (len : Int) := by omega
                have hb6 : (b : Int) < 1000000 := by omega
                clear h1 h7 h2 h6 MO MS PO
                have OW := Lib.hid (own_any (e b) (e k))
                generalize ownE (e b) (e k) = q at *
                go_upto_region 21 with (first | (go_at_call 39; refine (LA.out _ (HL.out.grown G1.out)).mono ?_; rintro r u1 ⟨rfl, g1⟩; have E2 := Lib.hid (E1.out.grown g1.out (by simp)); have G2 := Lib.hid (gb_trans G1.out g1.out)) | (go_at_call 40; refine (OA.out _ (HL.out.grown G2.out)).mono ?_; rintro r u2 ⟨rfl, g2⟩; have E3 := Lib.hid (E2.out.grown g2.out (by simp)); have G3 := Lib.hid (gb_trans G2.out g2.out); have p3 := E3.out.lt; have y0 : u2.cell? ⟨p, 0, none⟩ = some (.int .i64 (e k).k) := E3.out.cell 0; have y1 : u2.cell? ⟨p, 1, none⟩ = some (.int .i64 (e k).th) := E3.out.cell 1; have y2 : u2.cell? ⟨p, 2, none⟩ = some (.int .i64 (e k).tx) := E3.out.cell 2; have y3 : u2.cell? ⟨p, 3, none⟩ = some (.int .i64 (e k).at_) := E3.out.cell 3; have y4 : u2.cell? ⟨p, 4, none⟩ = some (.int .i64 (e k).ob) := E3.out.cell 4; have y5 : u2.cell? ⟨p, 5, none⟩ = some (.int .i64 (e k).va) := E3.out.cell 5; have y6 : u2.cell? ⟨p, 6, none⟩ = some (.int .i64 (e k).re) := E3.out.cell 6) | go_in)
                obtain ⟨d0, d1, d2, d3, d4, d5, d6⟩ := evsIn (HL.out.grown G3.out) (show b < len by omega)
                clear x0 x1 x2 x3 x4 x5 x6
                cases q with
                | true =>
                  have HY := Lib.hid (YES.out HM.out)
                  go_region_held3 (fun w' => w'.cell? ⟨eb, off + b * 7, none⟩ = some (.int .i64 (e b).k) ∧ w'.cell? ⟨eb, off + b * 7 + 1, none⟩ = some (.int .i64 (e b).th) ∧ w'.cell? ⟨eb, off + b * 7 + 2, none⟩ = some (.int .i64 (e b).tx) ∧ w'.cell? ⟨eb, off + b * 7 + 3, none⟩ = some (.int .i64 (e b).at_) ∧ w'.cell? ⟨eb, off + b * 7 + 4, none⟩ = some (.int .i64 (e b).ob) ∧ w'.cell? ⟨eb, off + b * 7 + 5, none⟩ = some (.int .i64 (e b).va) ∧ w'.cell? ⟨eb, off + b * 7 + 6, none⟩ = some (.int .i64 (e b).re) ∧ w'.cell? ⟨p, 0, none⟩ = some (.int .i64 ((e k).k)) ∧ w'.cell? ⟨p, 1, none⟩ = some (.int .i64 ((e k).th)) ∧ w'.cell? ⟨p, 2, none⟩ = some (.int .i64 ((e k).tx)) ∧ w'.cell? ⟨p, 3, none⟩ = some (.int .i64 ((e k).at_)) ∧ w'.cell? ⟨p, 4, none⟩ = some (.int .i64 ((e k).ob)) ∧ w'.cell? ⟨p, 5, none⟩ = some (.int .i64 ((e k).va)) ∧ w'.cell? ⟨p, 6, none⟩ = some (.int .i64 ((e k).re))) (go_keep) ((go_at_call 41; refine (OW.out _).mono ?_; rintro r u3 ⟨rfl, g3⟩; have m0 := g3.out.cell d0 (by simp); have m1 := g3.out.cell d1 (by simp); have m2 := g3.out.cell d2 (by simp); have m3 := g3.out.cell d3 (by simp); have m4 := g3.out.cell d4 (by simp); have m5 := g3.out.cell d5 (by simp); have m6 := g3.out.cell d6 (by simp); have n0 := g3.out.cell y0 (by simp); have n1 := g3.out.cell y1 (by simp); have n2 := g3.out.cell y2 (by simp); have n3 := g3.out.cell y3 (by simp); have n4 := g3.out.cell y4 (by simp); have n5 := g3.out.cell y5 (by simp); have n6 := g3.out.cell y6 (by simp)))
                  go_wp2
                  go_roundw
                  case rel => exact ⟨k + 1, by omega, by go_num, HY, gb_trans (gb_drew G3.out) g3.out⟩
                  case measure => simp [intOf] <;> omega
                | false =>
                  have HY := Lib.hid (NO.out HM.out)
                  go_region_held3 (fun w' => w'.cell? ⟨eb, off + b * 7, none⟩ = some (.int .i64 (e b).k) ∧ w'.cell? ⟨eb, off + b * 7 + 1, none⟩ = some (.int .i64 (e b).th) ∧ w'.cell? ⟨eb, off + b * 7 + 2, none⟩ = some (.int .i64 (e b).tx) ∧ w'.cell? ⟨eb, off + b * 7 + 3, none⟩ = some (.int .i64 (e b).at_) ∧ w'.cell? ⟨eb, off + b * 7 + 4, none⟩ = some (.int .i64 (e b).ob) ∧ w'.cell? ⟨eb, off + b * 7 + 5, none⟩ = some (.int .i64 (e b).va) ∧ w'.cell? ⟨eb, off + b * 7 + 6, none⟩ = some (.int .i64 (e b).re) ∧ w'.cell? ⟨p, 0, none⟩ = some (.int .i64 ((e k).k)) ∧ w'.cell? ⟨p, 1, none⟩ = some (.int .i64 ((e k).th)) ∧ w'.cell? ⟨p, 2, none⟩ = some (.int .i64 ((e k).tx)) ∧ w'.cell? ⟨p, 3, none⟩ = some (.int .i64 ((e k).at_)) ∧ w'.cell? ⟨p, 4, none⟩ = some (.int .i64 ((e k).ob)) ∧ w'.cell? ⟨p, 5, none⟩ = some (.int .i64 ((e k).va)) ∧ w'.cell? ⟨p, 6, none⟩ = some (.int .i64 ((e k).re))) (go_keep) ((go_at_call 41; refine (OW.out _).mono ?_; rintro r u3 ⟨rfl, g3⟩; have m0 := g3.out.cell d0 (by simp); have m1 := g3.out.cell d1 (by simp); have m2 := g3.out.cell d2 (by simp); have m3 := g3.out.cell d3 (by simp); have m4 := g3.out.cell d4 (by simp); have m5 := g3.out.cell d5 (by simp); have m6 := g3.out.cell d6 (by simp); have n0 := g3.out.cell y0 (by simp); have n1 := g3.out.cell y1 (by simp); have n2 := g3.out.cell y2 (by simp); have n3 := g3.out.cell y3 (by simp); have n4 := g3.out.cell y4 (by simp); have n5 := g3.out.cell y5 (by simp); have n6 := g3.out.cell y6 (by simp)))
                  go_wp2
                  go_ret
                  exact ⟨by rw [HY.out]; rfl, gb_trans (gb_drew G3.out) g3.out⟩
            · have f6 : decide ((e k).k ≤ 6) = false := by simpa using h6
              have HM := Lib.hid (NO.out (by cases o with | true => rw [MO.out rfl, f6]; simp | false => rw [MS.out rfl]; simp [h1, h7]))
              clear h1 h7 h2 h6
              go_wp2_with (first | (go_at_call 39; refine (LA.out _ (HL.out.grown G1.out)).mono ?_; rintro r u1 ⟨rfl, g1⟩; have E2 := Lib.hid (E1.out.grown g1.out (by simp)); have G2 := Lib.hid (gb_trans G1.out g1.out)) | (go_at_call 40; refine (OA.out _ (HL.out.grown G2.out)).mono ?_; rintro r u2 ⟨rfl, g2⟩; have E3 := Lib.hid (E2.out.grown g2.out (by simp)); have G3 := Lib.hid (gb_trans G2.out g2.out); have p3 := E3.out.lt; have y0 : u2.cell? ⟨p, 0, none⟩ = some (.int .i64 (e k).k) := E3.out.cell 0; have y1 : u2.cell? ⟨p, 1, none⟩ = some (.int .i64 (e k).th) := E3.out.cell 1; have y2 : u2.cell? ⟨p, 2, none⟩ = some (.int .i64 (e k).tx) := E3.out.cell 2; have y3 : u2.cell? ⟨p, 3, none⟩ = some (.int .i64 (e k).at_) := E3.out.cell 3; have y4 : u2.cell? ⟨p, 4, none⟩ = some (.int .i64 (e k).ob) := E3.out.cell 4; have y5 : u2.cell? ⟨p, 5, none⟩ = some (.int .i64 (e k).va) := E3.out.cell 5; have y6 : u2.cell? ⟨p, 6, none⟩ = some (.int .i64 (e k).re) := E3.out.cell 6) | go_in)
              go_ret
              exact ⟨by rw [HM.out]; rfl, G3.out⟩
          · have f2 : decide (2 ≤ (e k).k) = false := by simpa using h2
            have HM := Lib.hid (NO.out (by cases o with | true => rw [MO.out rfl, f2]; simp | false => rw [MS.out rfl]; simp [h1, h7]))
            clear h1 h7 h2
            go_wp2_with (first | (go_at_call 39; refine (LA.out _ (HL.out.grown G1.out)).mono ?_; rintro r u1 ⟨rfl, g1⟩; have E2 := Lib.hid (E1.out.grown g1.out (by simp)); have G2 := Lib.hid (gb_trans G1.out g1.out)) | (go_at_call 40; refine (OA.out _ (HL.out.grown G2.out)).mono ?_; rintro r u2 ⟨rfl, g2⟩; have E3 := Lib.hid (E2.out.grown g2.out (by simp)); have G3 := Lib.hid (gb_trans G2.out g2.out); have p3 := E3.out.lt; have y0 : u2.cell? ⟨p, 0, none⟩ = some (.int .i64 (e k).k) := E3.out.cell 0; have y1 : u2.cell? ⟨p, 1, none⟩ = some (.int .i64 (e k).th) := E3.out.cell 1; have y2 : u2.cell? ⟨p, 2, none⟩ = some (.int .i64 (e k).tx) := E3.out.cell 2; have y3 : u2.cell? ⟨p, 3, none⟩ = some (.int .i64 (e k).at_) := E3.out.cell 3; have y4 : u2.cell? ⟨p, 4, none⟩ = some (.int .i64 (e k).ob) := E3.out.cell 4; have y5 : u2.cell? ⟨p, 5, none⟩ = some (.int .i64 (e k).va) := E3.out.cell 5; have y6 : u2.cell? ⟨p, 6, none⟩ = some (.int .i64 (e k).re) := E3.out.cell 6) | go_in)
            go_ret
            exact ⟨by rw [HM.out]; rfl, G3.out⟩
    · obtain rfl : k = len := by omega
      go_wp2
      go_ret
      exact ⟨by rw [HR.out]; rfl, G.out⟩
end Go.Proofs.Ytdohepenmejcaaa.hs
