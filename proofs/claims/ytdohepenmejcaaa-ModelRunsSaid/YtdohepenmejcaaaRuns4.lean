/- The document's own answer of chapter 18: Runs. -/
import Derived.Test.YtdohepenmejcaaaRuns3
import Derived.BigQuiet
import Derived.Deep.QuietTactic
import Derived.Deep.RegionHeld3
namespace Go.Proofs.Ytdohepenmejcaaa.md
open Go Go.RowKit Go.Proofs.Ytdohepenmejcaaa.base Go.Proofs.Ytdohepenmejcaaa.hs Go.Proofs.Ytdohepenmejcaaa.lg Go.Maps
set_option linter.unusedVariables false
set_option maxRecDepth 100000

theorem vals_is (a b : Option Addr) (n ca cb : Nat) (f g : Nat → Int) (w : World) (ha : IsNums .i64 w a n f) (hb : IsNums .i64 w b n g) (hm : n ≤ 100000) (X : Bool) (hX : eqTo f g n = X) :
    Calls Try.prog 13 #[.slice a n ca, .slice b n cb] w fun e w' => e = .returned (.bool X) ∧ Hid (w.grownBy w' none) := by
  have h := vals_any a b n n ca cb f g w ha hb hm
  rwa [show (decide (n = n) && eqTo f g n) = X by simp [hX]] at h
theorem okA_th {A : List (List Txn)} {n : Nat} {t : Tr} (h : t.th < 0 ∨ (A.length : Int) ≤ t.th) : okA A n t = false := by
  unfold okA
  rcases h with h | h
  · rw [txnOf_neg1 h]
  · rw [txnOf_far1 h]
theorem txnOf_at {A : List (List Txn)} {th tx : Int} {l : List Txn} (h0 : 0 ≤ th) (h : A[th.toNat]? = some l) : txnOf A th tx = if 0 ≤ tx then l[tx.toNat]? else none := by
  unfold txnOf
  rw [if_pos h0, h]
  rfl
theorem okA_tx {A : List (List Txn)} {n : Nat} {t : Tr} {l : List Txn} (h0 : 0 ≤ t.th) (hl : A[t.th.toNat]? = some l) (h : t.tx < 0 ∨ (l.length : Int) ≤ t.tx) : okA A n t = false := by
  unfold okA
  rw [txnOf_at h0 hl]
  split
  · rfl
  · next x hx =>
    split at hx
    · have := (List.getElem?_eq_some_iff.1 hx).1
      omega
    · cases hx
theorem relN_put {e : Evs} {t : Tr} {j : Nat} (h : md.relN e t j = false) (h2 : (e j).k ≠ 4 ∨ (e j).th ≠ t.th ∨ (e j).tx ≠ t.tx ∨ (e j).at_ ≠ t.at_) : md.relN e t (j + 1) = false := by
  rw [md.relN, h]
  rcases h2 with h | h | h | h <;> simp [h]
theorem relN_yes {e : Evs} {t : Tr} {j len : Nat} (hj : j < len) (h1 : (e j).k = 4) (h2 : (e j).th = t.th) (h3 : (e j).tx = t.tx) (h4 : (e j).at_ = t.at_) : md.relN e t len = true := md.relN_iff.2 ⟨j, hj, h1, h2, h3, h4⟩

set_option maxHeartbeats 8000000 in
theorem refruns_any (a1 : Option Addr) (n c1 : Nat) (z : Nat → Int) (a2 : Option Addr) (len cap : Nat) (e : Evs) (a3 : Option Addr) (cap3 : Nat) (A : List (List Txn)) (w : World) (hz : IsNums .i64 w a1 n z) (hl : IsEvs w a2 len e) (hA : IsAll w a3 A) (hsm : smallA A) (hn : n ≤ 1000) (hlen : len ≤ 1000) :
    Calls Try.prog 22 #[.slice a1 n c1, .slice a2 len cap, .slice a3 A.length cap3] w fun r w' => r = .returned (.bool (runsB A e len n z)) ∧ Hid (w.grownBy w' none) := by
  have HZ := Lib.hid hz
  have HL := Lib.hid hl
  have HA := Lib.hid hA
  have HSM := Lib.hid hsm
  clear hz hl hA hsm
  go_enter Try.func22, Try.ntmps22
  go_wp2_with fail
  cases hr : right e len with
  | false =>
    have HX := Lib.hid (show runsB A e len n z = false by unfold runsB; rw [hr]; rfl)
    refine (right_doc a2 len cap e _ HL.out (by omega)).mono ?_
    rw [hr]
    rintro r u1 ⟨rfl, g1⟩
    go_wp2
    go_ret
    exact ⟨by rw [HX.out]; rfl, g1⟩
  | true =>
    have HR := Lib.hid hr
    refine (right_doc a2 len cap e _ HL.out (by omega)).mono ?_
    rw [hr]
    rintro r u1 ⟨rfl, g1⟩
    go_wp2_with fail
    refine (refstates_any a1 n c1 z a2 len cap e _ (HZ.out.grown g1.out) (HL.out.grown g1.out) hn hlen).mono ?_
    rintro r u2 ⟨sa, M, sc, rfl, hM, hS, g2⟩
    have G2 := Lib.hid (gb_trans g1.out g2.out)
    go_wp2_with fail
    refine (comms_docA a2 len cap e _ (HL.out.grown G2.out) hr hlen).mono ?_
    rintro r u3 ⟨ta, tc, ys, rfl, _, hY, g3, hrt, hra⟩
    have G3 := Lib.hid (gb_trans G2.out g3.out)
    have SS := Lib.hid (hS.out.grown g3.out)
    have HY := Lib.hid hY.out
    have hcl : (cacs e len).length = ys.length := by unfold cacs; rw [if_pos hr, ← hY.out]; simp
    have HM := Lib.hid (show M = ys.length + 1 by rw [← hcl]; exact hM.out)
    have hyl3 : ys.length ≤ 1000 := by have := cacs_len e len; omega
    have HRT := Lib.hid (IsL.of_own hrt.out tvC_len rfl)
    have HRA := Lib.hid hra.out
    have HX := Lib.hid (show runsB A e len n z = runsN A e len n (stAt z (cacs e len)) (ys.map Prod.fst) (ys.map Prod.fst).length by unfold runsB; rw [hr, HY.out]; rfl)
    have HC := Lib.hid (show ys.map (fun x => x.1.ac) = cacs e len by unfold cacs; rw [if_pos hr, ← hY.out, List.map_map]; rfl)
    clear hS hY hM hrt hra hr g1 g2 g3 G2 hcl
    go_wp2
    go_loopw [9] (fun iv wr => ∃ k : Nat, k ≤ ys.length ∧ iv = .int .i64 k ∧ Hid (runsN A e len n (stAt z (cacs e len)) (ys.map Prod.fst) k = true) ∧ Hid (u3.grownBy wr none)) (fun iv _ => (ys.length - intOf iv).toNat)
    case atStart => exact ⟨0, by omega, rfl, rfl, gb_refl _ _⟩
    case round =>
      obtain ⟨k, hk, rfl, HS, G⟩ := hrel
      by_cases hlt : k < ys.length
      · have hlt' : (k : Int) < (ys.length : Int) := by omega
        have hk6 : (k : Int) < 1000000 := by omega
        have hgk := List.getElem?_eq_getElem hlt
        have hmem : ys[k] ∈ ys := List.getElem_mem hlt
        obtain ⟨b, off, rfl, hb, hc⟩ := (HRT.out.grown G.out).at tvC_len hgk
        have hcs : (cacs e len)[k]? = some ys[k].1.ac := by rw [← HC.out, List.getElem?_map, hgk]; rfl
        have hts : (ys.map Prod.fst)[k]? = some ys[k].1 := by rw [List.getElem?_map, hgk]; rfl
        have hac := HRA.out ys[k] hmem
        obtain ⟨va, vc, hv⟩ := owns_slice hac
        have ST := Lib.hid (stAt_step z hcs)
        have STEP := Lib.hid (runsN_step (A := A) (e := e) (len := len) (n := n) (st := stAt z (cacs e len)) hts)
        have BAD := Lib.hid (fun h => runsN_bad (A := A) (e := e) (len := len) (n := n) (st := stAt z (cacs e len)) hts h)
        obtain ⟨t, ht⟩ : ∃ t, t = ys[k].1 := ⟨_, rfl⟩
        have hyk : ys[k] = (t, .slice va t.ac.length vc) := Prod.ext ht.symm (by rw [ht]; exact hv)
        rw [hyk] at hc ST STEP BAD
        have d0 : wr.cell? ⟨b, off + k * 9, none⟩ = some (.int .i64 t.th) := hc 0 _ rfl
        have d1 := hc 1 _ rfl; have d2 := hc 2 _ rfl; have d3 := hc 3 _ rfl; have d4 := hc 4 _ rfl; have d5 := hc 5 _ rfl; have d6 := hc 6 _ rfl; have d7 := hc 7 _ rfl; have d8 := hc 8 _ rfl
        dsimp only at ST STEP BAD
        clear hgk hmem hcs hts hac hv ht hyk hc
        have BT := Lib.hid (Blk.made wr 36 #[.int .i64 t.th, .int .i64 t.tx, .int .i64 t.at_, .int .i64 t.st, .int .i64 t.b, .int .i64 t.en, .int .i64 t.re, .bool t.co, .slice va t.ac.length vc])
        have GA := Lib.hid (World.grownBy_alloc wr (.cells #[.int .i64 t.th, .int .i64 t.tx, .int .i64 t.at_, .int .i64 t.st, .int .i64 t.b, .int .i64 t.en, .int .i64 t.re, .bool t.co, .slice va t.ac.length vc] 36) none)
        go_wp2_with fail
        generalize wr.alloc _ = w2 at *
        generalize hbt : wr.heap.size = bt at *
        clear d0 d1 d2 d3 d4 d5 d6 d7 d8 hb hbt
        have hbl := BT.out.lt
        have q0 := BT.out.at 0 rfl; have q1 := BT.out.at 1 rfl; have q2 := BT.out.at 2 rfl
        have G32 := Lib.hid (gb_trans (gb_trans G3.out G.out) GA.out)
        have HA2 := Lib.hid (HA.out.grown G32.out)
        by_cases h1 : t.th < 0
        · have HN := Lib.hid (BAD.out (okT_no (okA_th (.inl h1))))
          clear STEP BAD
          go_quiet (fail); go_wp2; go_ret; exact ⟨by rw [HX.out, HN.out]; rfl, by first | exact gb_trans G32.out (gb_drewN (gb_refl w2 none) _) | exact gb_trans G32.out (gb_drew (gb_refl w2 none))⟩
        have f1 : decide (t.th < 0) = false := by simpa using h1
        by_cases h2 : (A.length : Int) ≤ t.th
        · have HN := Lib.hid (BAD.out (okT_no (okA_th (.inr h2))))
          clear STEP BAD h1
          go_quiet (fail); go_wp2; go_ret; exact ⟨by rw [HX.out, HN.out]; rfl, by first | exact gb_trans G32.out (gb_drewN (gb_refl w2 none) _) | exact gb_trans G32.out (gb_drew (gb_refl w2 none))⟩
        have f2 : decide ((A.length : Int) ≤ t.th) = false := by simpa using h2
        have p1 : 0 ≤ t.th := by omega
        have p2 : t.th < (A.length : Int) := by omega
        have hgi : A[t.th.toNat]? = some A[t.th.toNat] := List.getElem?_eq_getElem (by omega)
        obtain ⟨l, hl9⟩ : ∃ l, l = A[t.th.toNat]'(by omega) := ⟨_, rfl⟩
        rw [← hl9] at hgi
        have HGI := Lib.hid hgi
        obtain ⟨b1, o1, v1, rfl, hb1, x1, a5, c5, rfl, h5⟩ := HA2.out.at hgi
        have H5 := Lib.hid h5
        clear hl9 hgi h5 h1 h2
        by_cases h3 : t.tx < 0
        · have HN := Lib.hid (BAD.out (okT_no (okA_tx p1 HGI.out (.inl h3))))
          clear STEP BAD
          go_quiet (fail); go_wp2; go_ret; exact ⟨by rw [HX.out, HN.out]; rfl, by first | exact gb_trans G32.out (gb_drewN (gb_refl w2 none) _) | exact gb_trans G32.out (gb_drew (gb_refl w2 none))⟩
        have f3 : decide (t.tx < 0) = false := by simpa using h3
        by_cases h4 : (l.length : Int) ≤ t.tx
        · have HN := Lib.hid (BAD.out (okT_no (okA_tx p1 HGI.out (.inr h4))))
          clear STEP BAD h3
          go_quiet (fail); go_wp2; go_ret; exact ⟨by rw [HX.out, HN.out]; rfl, by first | exact gb_trans G32.out (gb_drewN (gb_refl w2 none) _) | exact gb_trans G32.out (gb_drew (gb_refl w2 none))⟩
        have f4 : decide ((l.length : Int) ≤ t.tx) = false := by simpa using h4
        have p3 : 0 ≤ t.tx := by omega
        have p4 : t.tx < (l.length : Int) := by omega
        have hgj : l[t.tx.toNat]? = some l[t.tx.toNat] := List.getElem?_eq_getElem (by omega)
        obtain ⟨x, hx9⟩ : ∃ x, x = l[t.tx.toNat]'(by omega) := ⟨_, rfl⟩
        rw [← hx9] at hgj
        have HGJ := Lib.hid hgj
        have HTX := Lib.hid (show txnOf A t.th t.tx = some x by rw [txnOf_at p1 HGI.out, if_pos p3]; exact hgj)
        have hxn : x.n ≤ 20 := by
          have h := HSM.out.2 l (List.mem_of_getElem? HGI.out)
          exact h.2 x (List.mem_of_getElem? hgj)
        clear hx9 hgj h3 h4
        go_quiet (fail); go_wp2
        generalize hw3 : w2.drewN _ = w3 at *
        have G23 : Hid (w2.grownBy w3 none) := by rw [← hw3]; exact gb_drewN (gb_refl w2 none) _
        clear f1 f2 f3 f4 q0 q1 q2 hw3 hbl hb1 x1
        have B3 := Lib.hid (BT.out.grown G23.out (by simp))
        have GW3 := Lib.hid (gb_trans G32.out G23.out)
        go_loopw [11] (fun jv wq => ∃ j : Nat, j ≤ len ∧ jv = .int .i64 j ∧ Hid (md.relN e t j = false) ∧ Hid (w3.grownBy wq none)) (fun jv _ => (len - intOf jv).toNat)
        case atStart => exact ⟨0, by omega, rfl, rfl, gb_refl _ _⟩
        case round =>
          obtain ⟨j, hj, rfl, HJ, GQ⟩ := hrel
          have B4 := Lib.hid (B3.out.grown GQ.out (by simp))
          have hbl := B4.out.lt
          have q0 := B4.out.at 0 rfl; have q1 := B4.out.at 1 rfl; have q2 := B4.out.at 2 rfl
          have GW4 := Lib.hid (gb_trans GW3.out GQ.out)
          by_cases hjl : j < len
          · have hjl' : (j : Int) < (len : Int) := by omega
            have hj6 : (j : Int) < 1000000 := by omega
            obtain ⟨be, oe, rfl, hbe, e0, e1, e2, e3, e4, e5, e6, _⟩ := (HL.out.grown GW4.out).at7 hjl
            have PUT := Lib.hid (relN_put HJ.out)
            have YES := Lib.hid (relN_yes (e := e) (t := t) hjl)
            generalize e j = y at *
            by_cases h1 : y.k = 4
            · by_cases h2 : y.th = t.th
              · by_cases h3 : y.tx = t.tx
                · by_cases h4 : y.at_ = t.at_
                  · have g1 : (y.k == 4) = true := by simp [h1]
                    have g2 : (y.th == t.th) = true := by simp [h2]
                    have g3 : (y.tx == t.tx) = true := by simp [h3]
                    have g4 : (y.at_ == t.at_) = true := by simp [h4]
                    have HN := Lib.hid (BAD.out (by rw [okT]; split <;> simp_all [YES.out h1 h2 h3 h4]))
                    clear h1 h2 h3 h4 PUT YES STEP BAD
                    go_wp2_with fail
                    go_quiet (fail)
                    go_wp2
                    go_ret
                    exact ⟨by rw [HX.out, HN.out]; rfl, by first | exact gb_trans GW4.out (gb_drewN (gb_refl wr none) _) | exact gb_trans GW4.out (gb_drew (gb_refl wr none))⟩
                  · have HN := Lib.hid (PUT.out (.inr (.inr (.inr h4))))
                    have g1 : (y.k == 4) = true := by simp [h1]
                    have g2 : (y.th == t.th) = true := by simp [h2]
                    have g3 : (y.tx == t.tx) = true := by simp [h3]
                    have g4 : (y.at_ == t.at_) = false := by simp [h4]
                    clear h1 h2 h3 h4 PUT YES STEP BAD
                    go_wp2_with fail
                    go_quiet (fail); go_wp2; go_roundw; (case rel => exact ⟨j + 1, by omega, by go_num, HN, by first | exact gb_drewN GQ.out _ | exact gb_drew (gb_drewN GQ.out _)⟩); (case measure => simp [intOf]; omega)
                · have HN := Lib.hid (PUT.out (.inr (.inr (.inl h3))))
                  have g1 : (y.k == 4) = true := by simp [h1]
                  have g2 : (y.th == t.th) = true := by simp [h2]
                  have g3 : (y.tx == t.tx) = false := by simp [h3]
                  clear h1 h2 h3 PUT YES STEP BAD
                  go_wp2_with fail
                  go_quiet (fail); go_wp2; go_roundw; (case rel => exact ⟨j + 1, by omega, by go_num, HN, by first | exact gb_drewN GQ.out _ | exact gb_drew (gb_drewN GQ.out _)⟩); (case measure => simp [intOf]; omega)
              · have HN := Lib.hid (PUT.out (.inr (.inl h2)))
                have g1 : (y.k == 4) = true := by simp [h1]
                have g2 : (y.th == t.th) = false := by simp [h2]
                clear h1 h2 PUT YES STEP BAD
                go_wp2_with fail
                go_quiet (fail); go_wp2; go_roundw; (case rel => exact ⟨j + 1, by omega, by go_num, HN, by first | exact gb_drewN GQ.out _ | exact gb_drew (gb_drewN GQ.out _)⟩); (case measure => simp [intOf]; omega)
            · have HN := Lib.hid (PUT.out (.inl h1))
              have g1 : (y.k == 4) = false := by simp [h1]
              clear h1 PUT YES STEP BAD
              go_wp2_with fail
              go_quiet (fail); go_wp2; go_roundw; (case rel => exact ⟨j + 1, by omega, by go_num, HN, by first | exact gb_drewN GQ.out _ | exact gb_drew (gb_drewN GQ.out _)⟩); (case measure => simp [intOf]; omega)
          · obtain rfl : j = len := by omega
            obtain ⟨b1', o1', v1, hab, hb1, x1, a5, c5, rfl, h5⟩ := (HA.out.grown GW4.out).at HGI.out
            cases hab
            obtain ⟨b6, o6, v6, rfl, hb6, x6, a7, c7, rfl, h7⟩ := h5.at HGJ.out
            have H7 := Lib.hid h7
            clear h7 h5 H5
            go_wp2_with fail
            go_quiet (fail)
            go_wp2_with fail
            generalize hw7 : wr.drewN _ = u7 at *
            have GW7 : Hid (w.grownBy u7 none) := by rw [← hw7]; exact gb_trans GW4.out (gb_drewN (gb_refl wr none) _)
            have G37 : Hid (u3.grownBy u7 none) := by rw [← hw7]; exact gb_trans (gb_trans (gb_trans G.out GA.out) (gb_trans G23.out GQ.out)) (gb_drewN (gb_refl wr none) _)
            have H77 : Hid (IsOps u7 a7 x.n x.z) := by rw [← hw7]; exact H7.out.grown (gb_drewN (gb_refl wr none) _)
            have SU := Lib.hid (SS.out.grown G37.out)
            have hkM : k < M := by have := HM.out; omega
            have hkM' : (k : Int) < (M : Int) := by omega
            obtain ⟨m, hm⟩ : ∃ m, m = k + 1 := ⟨_, rfl⟩
            have hmM : m < M := by have := HM.out; omega
            have hmM' : (m : Int) < (M : Int) := by omega
            have hwk : IntKind.i64.wrap ((k : Int) + 1) = (m : Int) := by
              rw [show (k : Int) + 1 = (m : Int) by omega]
              exact IntWalk.i64_in _ (by omega)
            obtain ⟨wb, wo, ai, ci, rfl, hwb, xw, NW⟩ := SU.out.at hkM
            obtain ⟨wb', wo', aj, cj, hsa, hwb', yw, NY⟩ := SU.out.at hmM
            cases hsa
            have HNW := Lib.hid NW
            have HNY := Lib.hid (show IsNums .i64 u7 aj n (stAt z (cacs e j) (k + 1)) by rw [← hm]; exact NY)
            obtain ⟨X, hX⟩ : ∃ X, eqTo (run x.z (stAt z (cacs e j) k) x.n).2 (stAt z (cacs e j) (k + 1)) n = X := ⟨_, rfl⟩
            have HXE := Lib.hid hX
            have K0 : Hid (u7.grownBy u7.drew none) := Lib.hid (gb_drew (gb_refl u7 none))
            have HMK := Lib.hid hm
            clear NW NY hm hX hw7 SU hwb' hb1 x1 hb6 x6 q0 q1 q2 hbl
            cases hrb : rightB x.z x.n n with
            | false =>
              have HRB := Lib.hid hrb
              have HN := Lib.hid (BAD.out (okT_no (by unfold okA; rw [HTX.out]; exact hrb)))
              clear hrb STEP BAD
              refine wp_region_noPanic ?_
              refine wp_region_held_drew (S := (fun w' => Hid (u7.grownBy w' none))) (by kernel_rfl) ?_ (fun hHeld => ?_)
              · go_keep
              refine wpAnyH_take (i := 0) (oi := { dst := some 108, op := _, type := _, pos := _, after := _, guard := _ }) (v := ?_) rfl (by kernel_rfl) (by kernel_rfl) (by kernel_rfl) (fun _ _ _ h => h) (Or.inl ⟨by rfl, ?_⟩) (by assumption) ?_
              rotate_left
              · intro w hSw; (try dsimp only at hSw); go_simp; (try with_reducible rfl)
              simp only [Act.put, List.setIfInBounds_toArray, List.set_cons_zero, List.set_cons_succ]
              refine wpAnyH_take (i := 1) (oi := { dst := some 109, op := _, type := _, pos := _, after := _, guard := _ }) (v := ?_) rfl (by kernel_rfl) (by kernel_rfl) (by kernel_rfl) (fun _ _ _ h => h) (Or.inl ⟨by rfl, ?_⟩) (by assumption) ?_
              rotate_left
              · intro w hSw; (try dsimp only at hSw); go_simp; (try with_reducible rfl)
              simp only [Act.put, List.setIfInBounds_toArray, List.set_cons_zero, List.set_cons_succ]
              refine wpAnyH_take (i := 2) (oi := { dst := some 110, op := _, type := _, pos := _, after := _, guard := _ }) (v := ?_) rfl (by kernel_rfl) (by kernel_rfl) (by kernel_rfl) (fun _ _ _ h => h) (Or.inl ⟨by rfl, ?_⟩) (by assumption) ?_
              rotate_left
              · intro w hSw; (try dsimp only at hSw); go_simp; (try with_reducible rfl)
              simp only [Act.put, List.setIfInBounds_toArray, List.set_cons_zero, List.set_cons_succ]
              refine wpAnyH_ready (rs := [3]) (by kernel_rfl) (by simp) ?_
              refine AllReadyH.cons (o := { dst := some 111, op := _, type := _, pos := _, after := _, guard := _ }) rfl (fun KK hKK => ?_) AllReadyH.nil
              go_simp
              go_at_call 35
              refine (lg.refright_any a7 x.n c7 x.z n _ (H77.out.grown (by refine Hid.out ?_; assumption)) (by unfold maxLen; omega)).mono ?_
              rw [HRB.out]
              rintro r u8 ⟨rfl, g8⟩
              have K8 : Hid (u7.grownBy u8 none) := Lib.hid (gb_trans (by refine Hid.out ?_; assumption) g8.out)
              dsimp only
              refine hKK.out _ _ K8 (fun hHeld => ?_)
              clear hKK KK
              try simp only [Act.put, List.setIfInBounds_toArray, List.set_cons_zero, List.set_cons_succ]
              refine wpAnyH_take (i := 4) (oi := { dst := some 112, op := _, type := _, pos := _, after := _, guard := _ }) (v := ?_) rfl (by kernel_rfl) (by kernel_rfl) (by kernel_rfl) (fun _ _ _ h => h) (Or.inl ⟨by rfl, ?_⟩) (by assumption) ?_
              rotate_left
              · intro w hSw; (try dsimp only at hSw); go_simp; (try with_reducible rfl)
              simp only [Act.put, List.setIfInBounds_toArray, List.set_cons_zero, List.set_cons_succ]
              refine wpAnyH_take (i := 5) (oi := { dst := some 113, op := _, type := _, pos := _, after := _, guard := _ }) (v := ?_) rfl (by kernel_rfl) (by kernel_rfl) (by kernel_rfl) (fun _ _ _ h => h) (Or.inl ⟨by rfl, ?_⟩) (by assumption) ?_
              rotate_left
              · intro w hSw; (try dsimp only at hSw); go_simp; (try with_reducible rfl)
              simp only [Act.put, List.setIfInBounds_toArray, List.set_cons_zero, List.set_cons_succ]
              refine wpAnyH_take (i := 6) (oi := { dst := some 114, op := _, type := _, pos := _, after := _, guard := _ }) rfl (by kernel_rfl) (by kernel_rfl) (by kernel_rfl) (fun _ _ _ h => h) (Or.inr ⟨by kernel_rfl, rfl⟩) (by assumption) ?_
              simp only [Act.put, List.setIfInBounds_toArray, List.set_cons_zero, List.set_cons_succ]
              refine wpAnyH_take (i := 7) (oi := { dst := some 115, op := _, type := _, pos := _, after := _, guard := _ }) rfl (by kernel_rfl) (by kernel_rfl) (by kernel_rfl) (fun _ _ _ h => h) (Or.inr ⟨by kernel_rfl, rfl⟩) (by assumption) ?_
              simp only [Act.put, List.setIfInBounds_toArray, List.set_cons_zero, List.set_cons_succ]
              refine wpAnyH_take (i := 8) (oi := { dst := some 116, op := _, type := _, pos := _, after := _, guard := _ }) rfl (by kernel_rfl) (by kernel_rfl) (by kernel_rfl) (fun _ _ _ h => h) (Or.inr ⟨by kernel_rfl, rfl⟩) (by assumption) ?_
              simp only [Act.put, List.setIfInBounds_toArray, List.set_cons_zero, List.set_cons_succ]
              refine wpAnyH_take (i := 9) (oi := { dst := some 117, op := _, type := _, pos := _, after := _, guard := _ }) rfl (by kernel_rfl) (by kernel_rfl) (by kernel_rfl) (fun _ _ _ h => h) (Or.inr ⟨by kernel_rfl, rfl⟩) (by assumption) ?_
              simp only [Act.put, List.setIfInBounds_toArray, List.set_cons_zero, List.set_cons_succ]
              refine wpAnyH_take (i := 10) (oi := { dst := some 118, op := _, type := _, pos := _, after := _, guard := _ }) rfl (by kernel_rfl) (by kernel_rfl) (by kernel_rfl) (fun _ _ _ h => h) (Or.inr ⟨by kernel_rfl, rfl⟩) (by assumption) ?_
              simp only [Act.put, List.setIfInBounds_toArray, List.set_cons_zero, List.set_cons_succ]
              refine wpAnyH_take (i := 11) (oi := { dst := some 119, op := _, type := _, pos := _, after := _, guard := _ }) rfl (by kernel_rfl) (by kernel_rfl) (by kernel_rfl) (fun _ _ _ h => h) (Or.inr ⟨by kernel_rfl, rfl⟩) (by assumption) ?_
              simp only [Act.put, List.setIfInBounds_toArray, List.set_cons_zero, List.set_cons_succ]
              refine wpAnyH_take (i := 12) (oi := { dst := some 120, op := _, type := _, pos := _, after := _, guard := _ }) rfl (by kernel_rfl) (by kernel_rfl) (by kernel_rfl) (fun _ _ _ h => h) (Or.inr ⟨by kernel_rfl, rfl⟩) (by assumption) ?_
              simp only [Act.put, List.setIfInBounds_toArray, List.set_cons_zero, List.set_cons_succ]
              refine wpAnyH_take (i := 13) (oi := { dst := some 121, op := _, type := _, pos := _, after := _, guard := _ }) rfl (by kernel_rfl) (by kernel_rfl) (by kernel_rfl) (fun _ _ _ h => h) (Or.inr ⟨by kernel_rfl, rfl⟩) (by assumption) ?_
              simp only [Act.put, List.setIfInBounds_toArray, List.set_cons_zero, List.set_cons_succ]
              refine wpAnyH_take (i := 14) (oi := { dst := some 122, op := _, type := _, pos := _, after := _, guard := _ }) rfl (by kernel_rfl) (by kernel_rfl) (by kernel_rfl) (fun _ _ _ h => h) (Or.inr ⟨by kernel_rfl, rfl⟩) (by assumption) ?_
              simp only [Act.put, List.setIfInBounds_toArray, List.set_cons_zero, List.set_cons_succ]
              refine wpAnyH_take (i := 15) (oi := { dst := some 123, op := _, type := _, pos := _, after := _, guard := _ }) rfl (by kernel_rfl) (by kernel_rfl) (by kernel_rfl) (fun _ _ _ h => h) (Or.inr ⟨by kernel_rfl, rfl⟩) (by assumption) ?_
              simp only [Act.put, List.setIfInBounds_toArray, List.set_cons_zero, List.set_cons_succ]
              refine wpAnyH_take (i := 16) (oi := { dst := some 124, op := _, type := _, pos := _, after := _, guard := _ }) rfl (by kernel_rfl) (by kernel_rfl) (by kernel_rfl) (fun _ _ _ h => h) (Or.inr ⟨by kernel_rfl, rfl⟩) (by assumption) ?_
              simp only [Act.put, List.setIfInBounds_toArray, List.set_cons_zero, List.set_cons_succ]
              refine wpAnyH_take (i := 17) (oi := { dst := some 125, op := _, type := _, pos := _, after := _, guard := _ }) rfl (by kernel_rfl) (by kernel_rfl) (by kernel_rfl) (fun _ _ _ h => h) (Or.inr ⟨by kernel_rfl, rfl⟩) (by assumption) ?_
              simp only [Act.put, List.setIfInBounds_toArray, List.set_cons_zero, List.set_cons_succ]
              refine wpAnyH_take (i := 18) (oi := { dst := some 126, op := _, type := _, pos := _, after := _, guard := _ }) rfl (by kernel_rfl) (by kernel_rfl) (by kernel_rfl) (fun _ _ _ h => h) (Or.inr ⟨by kernel_rfl, rfl⟩) (by assumption) ?_
              simp only [Act.put, List.setIfInBounds_toArray, List.set_cons_zero, List.set_cons_succ]
              refine wpAnyH_take (i := 19) (oi := { dst := some 127, op := _, type := _, pos := _, after := _, guard := _ }) (v := ?_) rfl (by kernel_rfl) (by kernel_rfl) (by kernel_rfl) (fun _ _ _ h => h) (Or.inl ⟨by rfl, ?_⟩) (by assumption) ?_
              rotate_left
              · intro w hSw; (try dsimp only at hSw); go_simp; (try with_reducible rfl)
              simp only [Act.put, List.setIfInBounds_toArray, List.set_cons_zero, List.set_cons_succ]
              refine wpAnyH_done (by kernel_rfl) ?_ _
              refine NoPanic.normal ?_
              go_wp2
              go_ret
              exact ⟨by rw [HX.out, HN.out]; rfl, gb_trans GW7.out K8.out⟩
            | true =>
              have HRB := Lib.hid hrb
              have hok : okN x.z n x.n = true := by simp only [rightB, Bool.and_eq_true, decide_eq_true_eq] at hrb; exact hrb.2
              have HOK := Lib.hid hok
              have OK := Lib.hid (fun s s' => okT_some (e := e) (len := j) (s := s) (s' := s') HTX.out hrb)
              clear hrb hok
              cases X with
              | true =>
                have HN := Lib.hid (show runsN A e j n (stAt z (cacs e j)) (ys.map Prod.fst) (k + 1) = true by rw [STEP.out, HS.out, OK.out, HJ.out, HXE.out]; rfl)
                clear STEP BAD OK
                go_region_held3 (fun w' => Hid (u7.grownBy w' none) ∧ w'.cell? ⟨wb, wo + k, none⟩ = some (.slice ai n ci) ∧ w'.cell? ⟨wb, wo + m, none⟩ = some (.slice aj n cj)) (go_keep) (first | (go_at_call 35; refine (lg.refright_any a7 x.n c7 x.z n _ (H77.out.grown (by refine Hid.out ?_; assumption)) (by unfold maxLen; omega)).mono ?_; rw [HRB.out]; rintro r u8 ⟨rfl, g8⟩; have K8 : Hid (u7.grownBy u8 none) := Lib.hid (gb_trans (by refine Hid.out ?_; assumption) g8.out); have xw8 := K8.out.cell xw (by simp); have yw8 := K8.out.cell yw (by simp)) | (go_at_call 36; refine (lg.refalone_any a7 x.n c7 x.z ai n ci (stAt z (cacs e j) k) _ (H77.out.grown (by refine Hid.out ?_; assumption)) (HNW.out.grown (by refine Hid.out ?_; assumption)) HOK.out (by omega) (by omega)).mono ?_; rintro r u9 ⟨b9, c9, rfl, hr9, g9⟩; have N9 := Lib.hid (show IsNums .i64 u9 b9 n (run x.z (stAt z (cacs e j) k) x.n).2 from IsNums.of_own hr9.out); have K9 : Hid (u7.grownBy u9 none) := Lib.hid (gb_trans (by refine Hid.out ?_; assumption) g9.out); have xw9 := K9.out.cell xw (by simp); have yw9 := K9.out.cell yw (by simp)) | (go_at_call 13; refine (vals_is b9 aj n c9 cj _ _ _ N9.out (HNY.out.grown (by refine Hid.out ?_; assumption)) (by omega) _ HXE.out).mono ?_; rintro r u10 ⟨rfl, g10⟩; have K10 : Hid (u7.grownBy u10 none) := Lib.hid (gb_trans (by refine Hid.out ?_; assumption) g10.out); have xw10 := K10.out.cell xw (by simp); have yw10 := K10.out.cell yw (by simp)))
                all_goals
                  go_wp2
                  go_roundw
                  case rel => exact ⟨k + 1, by omega, (by have hmk := HMK.out; go_num), HN, gb_trans G37.out K10.out⟩
                  case measure => have hmk := HMK.out; simp [intOf]; omega
              | false =>
                have HN := Lib.hid (BAD.out (by rw [OK.out, HJ.out, HXE.out]; rfl))
                clear STEP BAD OK
                go_region_held3 (fun w' => Hid (u7.grownBy w' none) ∧ w'.cell? ⟨wb, wo + k, none⟩ = some (.slice ai n ci) ∧ w'.cell? ⟨wb, wo + m, none⟩ = some (.slice aj n cj)) (go_keep) (first | (go_at_call 35; refine (lg.refright_any a7 x.n c7 x.z n _ (H77.out.grown (by refine Hid.out ?_; assumption)) (by unfold maxLen; omega)).mono ?_; rw [HRB.out]; rintro r u8 ⟨rfl, g8⟩; have K8 : Hid (u7.grownBy u8 none) := Lib.hid (gb_trans (by refine Hid.out ?_; assumption) g8.out); have xw8 := K8.out.cell xw (by simp); have yw8 := K8.out.cell yw (by simp)) | (go_at_call 36; refine (lg.refalone_any a7 x.n c7 x.z ai n ci (stAt z (cacs e j) k) _ (H77.out.grown (by refine Hid.out ?_; assumption)) (HNW.out.grown (by refine Hid.out ?_; assumption)) HOK.out (by omega) (by omega)).mono ?_; rintro r u9 ⟨b9, c9, rfl, hr9, g9⟩; have N9 := Lib.hid (show IsNums .i64 u9 b9 n (run x.z (stAt z (cacs e j) k) x.n).2 from IsNums.of_own hr9.out); have K9 : Hid (u7.grownBy u9 none) := Lib.hid (gb_trans (by refine Hid.out ?_; assumption) g9.out); have xw9 := K9.out.cell xw (by simp); have yw9 := K9.out.cell yw (by simp)) | (go_at_call 13; refine (vals_is b9 aj n c9 cj _ _ _ N9.out (HNY.out.grown (by refine Hid.out ?_; assumption)) (by omega) _ HXE.out).mono ?_; rintro r u10 ⟨rfl, g10⟩; have K10 : Hid (u7.grownBy u10 none) := Lib.hid (gb_trans (by refine Hid.out ?_; assumption) g10.out); have xw10 := K10.out.cell xw (by simp); have yw10 := K10.out.cell yw (by simp)))
                all_goals
                  go_wp2
                  go_ret
                  exact ⟨by rw [HX.out, HN.out]; rfl, gb_trans GW7.out K10.out⟩
      · obtain rfl : k = ys.length := by omega
        have HN := Lib.hid (show runsB A e len n z = true by rw [HX.out, List.length_map]; exact HS.out)
        go_wp2
        go_ret
        exact ⟨by rw [HN.out]; rfl, gb_trans G3.out G.out⟩
end Go.Proofs.Ytdohepenmejcaaa.md
