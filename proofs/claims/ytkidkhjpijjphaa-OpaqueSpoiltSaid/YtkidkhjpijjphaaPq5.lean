/- Texts of one's own, one behind the other: RsA2, Ro, RoA, Sp, SpA. -/
import Derived.Test.YtkidkhjpijjphaaPq4
import Derived.Deep.RegionHeld3
import Derived.Deep.QuietTactic
/- The document's own answer for package opaque: where a try is seen; quarrelref19.Seen. -/
namespace Go.Proofs.Ytkidkhjpijjphaa.oq
open Go Go.RowKit Go.Proofs.Ytkidkhjpijjphaa.base Go.Proofs.Ytkidkhjpijjphaa.hs Go.Proofs.Ytkidkhjpijjphaa.lg Go.Proofs.Ytkidkhjpijjphaa.md
set_option linter.unusedVariables false
set_option linter.unusedSimpArgs false
set_option maxRecDepth 100000

theorem IsP.none {F : Nat → Bool} {lo hi : Nat} (h : hi < lo) : IsP F lo hi (-1) := .inl ⟨rfl, fun k a b => by omega⟩
theorem IsP.dn {F : Nat → Bool} {lo hi : Nat} {q : Int} (h : IsP F (lo + 1) hi q) (hl : lo ≤ hi) : IsP F lo hi (if F lo = true then (lo : Int) else q) := by
  by_cases hF : F lo = true
  · rw [if_pos hF]
    exact .inr ⟨lo, rfl, Nat.le_refl _, hl, hF, fun k a b => by omega⟩
  · rw [if_neg hF]
    have hF' : F lo = false := by simpa using hF
    rcases h with ⟨rfl, h⟩ | ⟨p, rfl, h1, h2, h3, h4⟩
    · exact .inl ⟨rfl, fun k a b => by
        by_cases hk : k = lo
        · rw [hk]; exact hF'
        · exact h k (by omega) b⟩
    · exact .inr ⟨p, rfl, by omega, h2, h3, fun k a b => by
        by_cases hk : k = lo
        · rw [hk]; exact hF'
        · exact h4 k (by omega) b⟩
theorem IsP.ex (F : Nat → Bool) (hi : Nat) : ∀ (d lo : Nat), hi + 1 - lo = d → ∃ q, IsP F lo hi q
  | 0, lo, h => ⟨-1, IsP.none (by omega)⟩
  | d + 1, lo, h => by
    obtain ⟨q, hq⟩ := IsP.ex F hi d (lo + 1) (by omega)
    exact ⟨_, IsP.dn hq (by omega)⟩
theorem SeenAt.ex (e : Evs) (n len i : Nat) (S : Nat → Nat → Int) (t : Tr) : ∃ q, SeenAt e n len i S t q := by
  unfold SeenAt
  split
  · exact ⟨_, rfl⟩
  · split
    · exact IsP.ex _ _ _ _ rfl
    · exact ⟨_, rfl⟩
theorem Sees.ex (e : Evs) (n len : Nat) (S : Nat → Nat → Int) : ∃ f, Sees e n len S f := by
  have h : ∀ no : Nat, ∃ q : Int, ∀ t : Tr, (tries e len)[no]? = some t → SeenAt e n len len S t q := fun no => by
    cases hx : (tries e len)[no]? with
    | none => exact ⟨0, fun t ht => by cases ht⟩
    | some t =>
      obtain ⟨q, hq⟩ := SeenAt.ex e n len len S t
      exact ⟨q, fun t' e' => by cases e'; exact hq⟩
  exact ⟨fun no => Classical.choose (h no), fun no t ht => Classical.choose_spec (h no) t ht⟩

/-- Which states the document asks. -/
def docF (e : Evs) (n len : Nat) (S : Nat → Nat → Int) (t : Tr) (k : Nat) : Bool := fits n (S k) t.ac && (!t.co || decide (k = before e (endOf len t)))
theorem seenAt_doc {e : Evs} {n len no : Nat} {S : Nat → Nat → Int} {t : Tr} {q : Int} (hr : right e len = true) (ht : (tries e len)[no]? = some t) (h : IsP (docF e n len S t) (before e t.b.toNat) (before e (endOf len t)) q) : SeenAt e n len len S t q := by
  obtain ⟨b, _, _, hb, hbl, _⟩ := tries_get ht
  unfold SeenAt
  by_cases hc : t.co = true
  · rw [if_pos hc]
    rcases tries_end hr ht with ⟨_, c⟩ | ⟨p, q1, q2, q3, q4, q5⟩
    · rw [c] at hc; cases hc
    have he : endOf len t = p := by unfold endOf; rw [if_neg (by omega), q1]; rfl
    rw [he] at h
    rw [q1, Int.toNat_natCast]
    have hm := before_mono e (show t.b.toNat ≤ p by omega)
    rcases h with ⟨rfl, h⟩ | ⟨k, rfl, h1, h2, h3, h4⟩
    · have h5 := h (before e p) hm (Nat.le_refl _)
      unfold docF at h5
      rw [hc, he] at h5
      simp at h5
      rw [if_neg (by simp [h5])]
    · unfold docF at h3
      rw [hc, he] at h3
      simp at h3
      rw [if_pos ⟨by omega, by rw [← h3.2]; exact h3.1⟩, h3.2]
  · have hc' : t.co = false := by simpa using hc
    rw [if_neg hc, if_pos (by omega)]
    have he : min len (endOf len t) = endOf len t := by
      unfold endOf
      split
      · exact Nat.min_self _
      · rcases tries_end hr ht with ⟨h3, _⟩ | ⟨q, h3, h4, h5, _⟩ <;> omega
    rw [he]
    exact IsP.congr h fun k _ => by unfold docF; rw [hc']; simp

set_option maxHeartbeats 60000000 in
theorem refseen_right (a1 : Option Addr) (n c1 : Nat) (z : Nat → Int) (a2 : Option Addr) (len cap : Nat) (e : Evs) (w : World) (hz : IsNums .i64 w a1 n z) (hl : IsEvs w a2 len e) (hr : right e len = true) (hlen : len ≤ 1000) (hn : n ≤ 1000) :
    Calls Try.prog 9 #[.slice a1 n c1, .slice a2 len cap] w fun r w' => ∃ f, Hid (Sees e n len (fun k => stAt z (cacs e len) k) f) ∧ Hid (w.grownBy w' none) ∧ ((∃ (k : Nat) (oa : Option Addr) (oc : Nat), r = .returned (.tuple #[.slice oa k oc, .int .i64 7]) ∧ Hid (k < (tries e len).length ∧ f k = -1 ∧ ∀ j, j < k → f j ≠ -1)) ∨ (Hid (∀ j, j < (tries e len).length → f j ≠ -1) ∧ ∃ sa sc, r = .returned (.tuple #[.slice sa (tries e len).length sc, .int .i64 0]) ∧ Hid (IsNums .i64 w' sa (tries e len).length f))) := by
  have HZ := Lib.hid hz
  have HL := Lib.hid hl
  have HR := Lib.hid hr
  have HLEN := Lib.hid hlen
  have HN := Lib.hid hn
  obtain ⟨i0, hi0, hz00, hz10, hz20⟩ := info_parts infoInt3
  have hi9 := Lib.hid hi0
  have hz0 := Lib.hid hz00
  have hz1 := Lib.hid hz10
  have hz2 := Lib.hid hz20
  clear hi0 hz00 hz10 hz20
  have HTN := Lib.hid (tries_n e len)
  have HAW0 := Lib.hid (acs_wf (evs_wf hl))
  obtain ⟨f, hf⟩ := Sees.ex e n len (fun k => stAt z (cacs e len) k)
  have HF := Lib.hid hf
  clear hz hl hr hf
  go_enter Try.func9, Try.ntmps9
  go_wp2_with fail
  refine (right_doc a2 len cap e _ HL.out (by omega)).mono ?_
  rw [HR.out]
  rintro r u1 ⟨rfl, g1⟩
  go_wp2_with fail
  refine (refstates_any a1 n c1 z a2 len cap e _ (HZ.out.grown g1.out) (HL.out.grown g1.out) HN.out HLEN.out).mono ?_
  rintro r u2 ⟨sa, M, sc, rfl, hM, hS, g2⟩
  have G2 := Lib.hid (gb_trans g1.out g2.out)
  go_wp2_with fail
  refine (tries_doc a2 len cap e _ (HL.out.grown G2.out) HR.out (by omega)).mono ?_
  rintro r u3 ⟨ta, tc, ys, rfl, TA, TY, g3⟩
  have G3 := Lib.hid (gb_trans G2.out g3.out)
  have SA := Lib.hid (hS.out.grown g3.out)
  have HM := Lib.hid (show M = before e len + 1 by rw [hM.out, cacs_before e HR.out])
  have HYL := Lib.hid (show ys.length = (tries e len).length by rw [← TY.out, List.length_map])
  have hyl6 : (ys.length : Int) ≤ 1000 := by have h1 := HYL.out; have h2 := HTN.out; omega
  have hM6 : (M : Int) ≤ 1001 := by have h1 := HM.out; have h2 := before_bound e len; omega
  clear g1 g2 g3 hS hM G2
  go_wp2_with fail
  go_loopw [8, 9] (fun ov iv wr => ∃ (i : Nat) (oa : Option Addr) (oc : Nat), i ≤ ys.length ∧ iv = .int .i64 i ∧ ov = .slice oa i oc ∧ Hid (wr.ownsRow u3.heap.size 3 1 (.slice oa i oc) i ((List.range i).map fun j => .int .i64 (f j))) ∧ Hid (∀ j, j < i → f j ≠ -1) ∧ Hid (u3.grownBy wr none)) (fun _ iv _ => (ys.length - intOf iv).toNat)
  case atStart => exact ⟨0, none, 0, by omega, rfl, rfl, World.ownsRow_nil _ _ _ _, fun j hj => by omega, gb_refl _ _⟩
  case round =>
    obtain ⟨i, oa, oc, hi, rfl, rfl, RO, HB, G⟩ := hrel
    by_cases hlt : i < ys.length
    · have hlt' : (i : Int) < (ys.length : Int) := by omega
      have hi6 : (i : Int) < 1000000 := by omega
      have hgi := List.getElem?_eq_getElem hlt
      have hti : (tries e len)[i]? = some ys[i].1 := by rw [← TY.out, List.getElem?_map, hgi]; rfl
      have HTI := Lib.hid hti
      obtain ⟨tb, off, va, vc, rfl, htb, hv, hl, d0, d1, d2, d3, d4, d5, d6, d7, d8⟩ := TA.out.at hgi
      have HLA := Lib.hid hl
      have HAW := Lib.hid (HAW0.out ys[i].1 (List.mem_of_getElem? hti)).2
      have hac6 : ys[i].1.ac.length ≤ 100000 := by have := (HAW0.out ys[i].1 (List.mem_of_getElem? hti)).1; omega
      have HBN := Lib.hid (tries_get hti)
      have hbb : 0 ≤ ys[i].1.b ∧ ys[i].1.b < (len : Int) := by
        obtain ⟨b, _, _, hb, hbl, _⟩ := tries_get hti
        omega
      have hee : endOf len ys[i].1 ≤ len := by
        unfold endOf
        split
        · exact Nat.le_refl _
        · rcases tries_end HR.out hti with ⟨h3, _⟩ | ⟨q, h3, h4, h5, _⟩ <;> omega
      have hendp : (if ys[i].1.en < 0 then (len : Int) else ys[i].1.en) = (endOf len ys[i].1 : Int) := by
        unfold endOf
        split <;> omega
      clear hgi hti hv hl HBN
      generalize ys[i].1 = t at *
      have HDOC := Lib.hid (fun q h => seenAt_doc (e := e) (n := n) (S := (fun k => stAt z (cacs e len) k)) (q := q) HR.out HTI.out h)
      obtain ⟨xth, xtx, xat, xst, xb, xen, xre, xco, xac⟩ := t
      dsimp only at d0 d1 d2 d3 d4 d5 d6 d7 d8 HDOC HLA HAW hac6 hbb hendp
      have HDF : Hid (∀ k, docF e n len (fun k => stAt z (cacs e len) k) ⟨xth, xtx, xat, xst, xb, xen, xre, xco, xac⟩ k = (fits n (stAt z (cacs e len) k) xac && (!xco || decide (k = before e (endOf len ⟨xth, xtx, xat, xst, xb, xen, xre, xco, xac⟩))))) := Lib.hid (fun _ => rfl)
      have hlh := before_mono e (show xb.toNat ≤ endOf len ⟨xth, xtx, xat, xst, xb, xen, xre, xco, xac⟩ by
        rcases tries_end HR.out HTI.out with ⟨h3, _⟩ | ⟨q, h3, h4, h5, _⟩
        · unfold endOf
          rw [if_pos (by dsimp only at h3 ⊢; omega)]
          omega
        · unfold endOf
          rw [if_neg (by dsimp only at h3 ⊢; omega)]
          dsimp only at h3 h4 ⊢
          omega)
      have hhM := before_mono e hee
      have hhM2 : before e (endOf len ⟨xth, xtx, xat, xst, xb, xen, xre, xco, xac⟩) < M := by have := HM.out; omega
      clear hhM
      generalize endOf len ⟨xth, xtx, xat, xst, xb, xen, xre, xco, xac⟩ = eo at *
      have BB := Lib.hid (fun u (g : Hid (u3.grownBy u none)) => refbefore_any u a2 len cap e xb (HL.out.grown (gb_trans G3.out g.out)) (by omega))
      have BE := Lib.hid (fun u (g : Hid (u3.grownBy u none)) => refbefore_any u a2 len cap e (eo : Int) (HL.out.grown (gb_trans G3.out g.out)) (by omega))
      rw [show min len xb.toNat = xb.toNat by omega] at BB
      rw [show min len (eo : Int).toNat = eo by omega] at BE
      have HSO := Lib.hid (fun q h => SeenAt.one (HF.out i _ HTI.out) (HDOC.out q h))
      have HIT := Lib.hid (show i < (tries e len).length by rw [← HYL.out]; exact hlt)
      clear HDOC HTI
      have b6 := before_bound e eo
      have cow := G.out.cell d5 (by simp)
      have heo6 : eo ≤ 1000 := by have := HLEN.out; omega
      generalize before e xb.toNat = lo at *
      generalize before e eo = hi0 at *
      obtain ⟨lz, hlz⟩ : ∃ q : Int, q = (lo : Int) := ⟨_, rfl⟩
      rw [← hlz] at BB
      obtain ⟨hz, hhz⟩ : ∃ q : Int, q = (hi0 : Int) := ⟨_, rfl⟩
      rw [← hhz] at BE
      have HHZ := Lib.hid hhz
      clear hhz
      obtain ⟨W1, rfl⟩ : ∃ W, W = wr := ⟨wr, rfl⟩
      have HLZ := Lib.hid hlz
      clear hlz hlt
      have w4 := G.out.cell d4 (by simp)
      by_cases h0 : xen < 0
      · rw [if_pos h0] at hendp
        have hE : eo = len := by omega
        subst hE
        go_wp2_with (first | (go_at_call 25; refine (BE.out _ (by refine Hid.out ?_; assumption)).mono ?_; rintro r u5 ⟨rfl, g5⟩) | go_in)
        have GI0 := g5
        go_loopw [11, 12] (fun pv kv wq => ∃ (m : Nat) (q : Int), lo ≤ m ∧ m ≤ hi0 + 1 ∧ kv = .int .i64 ((m : Int) - 1) ∧ pv = .int .i64 q ∧ Hid (IsP (docF e n _ (fun k => stAt z (cacs e _) k) ⟨xth, xtx, xat, xst, xb, _, xre, xco, xac⟩) m hi0 q) ∧ Hid (W1.grownBy wq none)) (fun _ kv _ => (intOf kv + 1).toNat)
        case atStart => exact ⟨hi0 + 1, -1, by omega, by omega, by show _ = _; congr 1; have := HHZ.out; omega, rfl, IsP.none (by omega), GI0⟩
        case round =>
          obtain ⟨m, q, hm1, hm2, rfl, rfl, HI, GW⟩ := hrel
          have GI := Lib.hid (gb_trans G.out GW.out)
          have y4 := GI.out.cell d4 (by simp)
          by_cases hgo : lo < m
          · obtain ⟨k, rfl⟩ : ∃ k, m = k + 1 := ⟨m - 1, by omega⟩
            have hkk : (((k + 1 : Nat) : Int) - 1) = (k : Int) := by omega
            rw [hkk]
            clear hkk
            have hge : lz ≤ (k : Int) := by have := HLZ.out; omega
            have hkM : k < M := by omega
            have hkM' : (k : Int) < (M : Int) := by omega
            have hk6 : (k : Int) < 1000000 := by omega
            obtain ⟨sb, so, ai, ci, rfl, hsb, cs, NK0⟩ := SA.out.at hkM
            have NK := Lib.hid NK0
            clear NK0 y4
            have y4 := GI.out.cell d4 (by simp)
            go_upto_region 16 with (first | (go_at_call 25; refine (BB.out _ (by refine Hid.out ?_; assumption)).mono ?_; rintro r u6 ⟨rfl, g6⟩) | go_in)
            have G6 := Lib.hid (gb_trans GI.out g6.out)
            have K0 : Hid (u3.grownBy u6.drew none) := Lib.hid (gb_drew G6.out)
            have WK0 : Hid (W1.grownBy u6.drew none) := Lib.hid (gb_drew (gb_trans GW.out g6.out))
            have z0 := G6.out.cell d0 (by simp)
            have z1 := G6.out.cell d1 (by simp)
            have z2 := G6.out.cell d2 (by simp)
            have z3 := G6.out.cell d3 (by simp)
            have z4 := G6.out.cell d4 (by simp)
            have z5 := G6.out.cell d5 (by simp)
            have z6 := G6.out.cell d6 (by simp)
            have z7 := G6.out.cell d7 (by simp)
            have z8 := G6.out.cell d8 (by simp)
            have zs := G6.out.cell cs (by simp)
            cases hft : fits n (stAt z (cacs e _) k) xac with
            | false =>
              have FT := Lib.hid hft
              have HQ := Lib.hid (show IsP _ k hi0 q by have := IsP.dn HI.out (show k ≤ hi0 by omega); rw [HDF.out, hft, Bool.false_and, if_neg (by simp)] at this; exact this)
              clear hft HI
              cases xco with
              | false =>
                refine wp_region_noPanic ?_
                refine wp_region_held_drew (S := (fun w' => Hid (W1.grownBy w' none) ∧ Hid (u3.grownBy w' none) ∧ w'.cell? ⟨sb, so + k, none⟩ = some (.slice ai n ci) ∧ w'.cell? ⟨tb, off + i * 9, none⟩ = some (.int .i64 xth) ∧ w'.cell? ⟨tb, off + i * 9 + 1, none⟩ = some (.int .i64 xtx) ∧ w'.cell? ⟨tb, off + i * 9 + 2, none⟩ = some (.int .i64 xat) ∧ w'.cell? ⟨tb, off + i * 9 + 3, none⟩ = some (.int .i64 xst) ∧ w'.cell? ⟨tb, off + i * 9 + 4, none⟩ = some (.int .i64 xb) ∧ w'.cell? ⟨tb, off + i * 9 + 5, none⟩ = some (.int .i64 xen) ∧ w'.cell? ⟨tb, off + i * 9 + 6, none⟩ = some (.int .i64 xre) ∧ w'.cell? ⟨tb, off + i * 9 + 7, none⟩ = some (.bool false) ∧ w'.cell? ⟨tb, off + i * 9 + 8, none⟩ = some (.slice va xac.length vc))) (by kernel_rfl) ?_ (fun hHeld => ?_)
                · go_keep
                refine wpAnyH_take (i := 0) (oi := { dst := some 50, op := _, type := _, pos := _, after := _, guard := _ }) (v := ?_) rfl (by kernel_rfl) (by kernel_rfl) (by kernel_rfl) (fun _ _ _ h => h) (Or.inl ⟨by rfl, ?_⟩) (by assumption) ?_
                rotate_left
                · intro w hSw; (try dsimp only at hSw); go_simp; (try with_reducible rfl)
                simp only [Act.put, List.setIfInBounds_toArray, List.set_cons_zero, List.set_cons_succ]
                refine wpAnyH_take (i := 1) (oi := { dst := some 51, op := _, type := _, pos := _, after := _, guard := _ }) (v := ?_) rfl (by kernel_rfl) (by kernel_rfl) (by kernel_rfl) (fun _ _ _ h => h) (Or.inl ⟨by rfl, ?_⟩) (by assumption) ?_
                rotate_left
                · intro w hSw; (try dsimp only at hSw); go_simp; (try with_reducible rfl)
                simp only [Act.put, List.setIfInBounds_toArray, List.set_cons_zero, List.set_cons_succ]
                refine wpAnyH_take (i := 2) (oi := { dst := some 52, op := _, type := _, pos := _, after := _, guard := _ }) (v := ?_) rfl (by kernel_rfl) (by kernel_rfl) (by kernel_rfl) (fun _ _ _ h => h) (Or.inl ⟨by rfl, ?_⟩) (by assumption) ?_
                rotate_left
                · intro w hSw; (try dsimp only at hSw); go_simp; (try with_reducible rfl)
                simp only [Act.put, List.setIfInBounds_toArray, List.set_cons_zero, List.set_cons_succ]
                refine wpAnyH_take (i := 3) (oi := { dst := some 53, op := _, type := _, pos := _, after := _, guard := _ }) (v := ?_) rfl (by kernel_rfl) (by kernel_rfl) (by kernel_rfl) (fun _ _ _ h => h) (Or.inl ⟨by rfl, ?_⟩) (by assumption) ?_
                rotate_left
                · intro w hSw; (try dsimp only at hSw); go_simp; (try with_reducible rfl)
                simp only [Act.put, List.setIfInBounds_toArray, List.set_cons_zero, List.set_cons_succ]
                refine wpAnyH_take (i := 4) (oi := { dst := some 54, op := _, type := _, pos := _, after := _, guard := _ }) (v := ?_) rfl (by kernel_rfl) (by kernel_rfl) (by kernel_rfl) (fun _ _ _ h => h) (Or.inl ⟨by rfl, ?_⟩) (by assumption) ?_
                rotate_left
                · intro w hSw; (try dsimp only at hSw); go_simp; (try with_reducible rfl)
                simp only [Act.put, List.setIfInBounds_toArray, List.set_cons_zero, List.set_cons_succ]
                refine wpAnyH_take (i := 5) (oi := { dst := some 55, op := _, type := _, pos := _, after := _, guard := _ }) (v := ?_) rfl (by kernel_rfl) (by kernel_rfl) (by kernel_rfl) (fun _ _ _ h => h) (Or.inl ⟨by rfl, ?_⟩) (by assumption) ?_
                rotate_left
                · intro w hSw; (try dsimp only at hSw); go_simp; (try with_reducible rfl)
                simp only [Act.put, List.setIfInBounds_toArray, List.set_cons_zero, List.set_cons_succ]
                refine wpAnyH_take (i := 6) (oi := { dst := some 56, op := _, type := _, pos := _, after := _, guard := _ }) (v := ?_) rfl (by kernel_rfl) (by kernel_rfl) (by kernel_rfl) (fun _ _ _ h => h) (Or.inl ⟨by rfl, ?_⟩) (by assumption) ?_
                rotate_left
                · intro w hSw; (try dsimp only at hSw); go_simp; (try with_reducible rfl)
                simp only [Act.put, List.setIfInBounds_toArray, List.set_cons_zero, List.set_cons_succ]
                refine wpAnyH_take (i := 7) (oi := { dst := some 57, op := _, type := _, pos := _, after := _, guard := _ }) (v := ?_) rfl (by kernel_rfl) (by kernel_rfl) (by kernel_rfl) (fun _ _ _ h => h) (Or.inl ⟨by rfl, ?_⟩) (by assumption) ?_
                rotate_left
                · intro w hSw; (try dsimp only at hSw); go_simp; (try with_reducible rfl)
                simp only [Act.put, List.setIfInBounds_toArray, List.set_cons_zero, List.set_cons_succ]
                refine wpAnyH_ready (rs := [8]) (by kernel_rfl) (by simp) ?_
                refine AllReadyH.cons (o := { dst := some 58, op := _, type := _, pos := _, after := _, guard := _ }) rfl (fun KK hKK => ?_) AllReadyH.nil
                go_simp
                go_at_call 26
                refine (reffits_any ai n ci (stAt z (cacs e _) k) ⟨xth, xtx, xat, xst, xb, _, xre, false, xac⟩ va vc _ (NK.out.grown (by refine Hid.out ?_; assumption)) (HLA.out.grown (by refine Hid.out ?_; assumption)) (by have := HN.out; omega) hac6).mono ?_
                dsimp only
                rw [FT.out]
                rintro r u8 ⟨rfl, g8⟩
                have WK8 : Hid (W1.grownBy u8 none) := Lib.hid (gb_trans (by refine Hid.out ?_; assumption) g8.out); have K8 : Hid (u3.grownBy u8 none) := Lib.hid (gb_trans (by refine Hid.out ?_; assumption) g8.out); have xs8 := K8.out.cell cs (by simp); have x08 := K8.out.cell d0 (by simp); have x18 := K8.out.cell d1 (by simp); have x28 := K8.out.cell d2 (by simp); have x38 := K8.out.cell d3 (by simp); have x48 := K8.out.cell d4 (by simp); have x58 := K8.out.cell d5 (by simp); have x68 := K8.out.cell d6 (by simp); have x78 := K8.out.cell d7 (by simp); have x88 := K8.out.cell d8 (by simp)
                dsimp only
                refine hKK.out _ _ ⟨WK8, K8, xs8, x08, x18, x28, x38, x48, x58, x68, x78, x88⟩ (fun hHeld => ?_)
                clear hKK KK
                try simp only [Act.put, List.setIfInBounds_toArray, List.set_cons_zero, List.set_cons_succ]
                refine wpAnyH_take (i := 9) (oi := { dst := some 59, op := _, type := _, pos := _, after := _, guard := _ }) (v := ?_) rfl (by kernel_rfl) (by kernel_rfl) (by kernel_rfl) (fun _ _ _ h => h) (Or.inl ⟨by rfl, ?_⟩) (by assumption) ?_
                rotate_left
                · intro w hSw; (try dsimp only at hSw); go_simp; (try with_reducible rfl)
                simp only [Act.put, List.setIfInBounds_toArray, List.set_cons_zero, List.set_cons_succ]
                refine wpAnyH_take (i := 10) (oi := { dst := some 60, op := _, type := _, pos := _, after := _, guard := _ }) rfl (by kernel_rfl) (by kernel_rfl) (by kernel_rfl) (fun _ _ _ h => h) (Or.inr ⟨by kernel_rfl, rfl⟩) (by assumption) ?_
                simp only [Act.put, List.setIfInBounds_toArray, List.set_cons_zero, List.set_cons_succ]
                refine wpAnyH_take (i := 11) (oi := { dst := some 61, op := _, type := _, pos := _, after := _, guard := _ }) rfl (by kernel_rfl) (by kernel_rfl) (by kernel_rfl) (fun _ _ _ h => h) (Or.inr ⟨by kernel_rfl, rfl⟩) (by assumption) ?_
                simp only [Act.put, List.setIfInBounds_toArray, List.set_cons_zero, List.set_cons_succ]
                refine wpAnyH_take (i := 12) (oi := { dst := some 62, op := _, type := _, pos := _, after := _, guard := _ }) rfl (by kernel_rfl) (by kernel_rfl) (by kernel_rfl) (fun _ _ _ h => h) (Or.inr ⟨by kernel_rfl, rfl⟩) (by assumption) ?_
                simp only [Act.put, List.setIfInBounds_toArray, List.set_cons_zero, List.set_cons_succ]
                refine wpAnyH_take (i := 13) (oi := { dst := some 63, op := _, type := _, pos := _, after := _, guard := _ }) rfl (by kernel_rfl) (by kernel_rfl) (by kernel_rfl) (fun _ _ _ h => h) (Or.inr ⟨by kernel_rfl, rfl⟩) (by assumption) ?_
                simp only [Act.put, List.setIfInBounds_toArray, List.set_cons_zero, List.set_cons_succ]
                refine wpAnyH_take (i := 14) (oi := { dst := some 64, op := _, type := _, pos := _, after := _, guard := _ }) rfl (by kernel_rfl) (by kernel_rfl) (by kernel_rfl) (fun _ _ _ h => h) (Or.inr ⟨by kernel_rfl, rfl⟩) (by assumption) ?_
                simp only [Act.put, List.setIfInBounds_toArray, List.set_cons_zero, List.set_cons_succ]
                refine wpAnyH_take (i := 15) (oi := { dst := some 65, op := _, type := _, pos := _, after := _, guard := _ }) rfl (by kernel_rfl) (by kernel_rfl) (by kernel_rfl) (fun _ _ _ h => h) (Or.inr ⟨by kernel_rfl, rfl⟩) (by assumption) ?_
                simp only [Act.put, List.setIfInBounds_toArray, List.set_cons_zero, List.set_cons_succ]
                refine wpAnyH_take (i := 16) (oi := { dst := some 66, op := _, type := _, pos := _, after := _, guard := _ }) rfl (by kernel_rfl) (by kernel_rfl) (by kernel_rfl) (fun _ _ _ h => h) (Or.inr ⟨by kernel_rfl, rfl⟩) (by assumption) ?_
                simp only [Act.put, List.setIfInBounds_toArray, List.set_cons_zero, List.set_cons_succ]
                refine wpAnyH_take (i := 17) (oi := { dst := some 67, op := _, type := _, pos := _, after := _, guard := _ }) rfl (by kernel_rfl) (by kernel_rfl) (by kernel_rfl) (fun _ _ _ h => h) (Or.inr ⟨by kernel_rfl, rfl⟩) (by assumption) ?_
                simp only [Act.put, List.setIfInBounds_toArray, List.set_cons_zero, List.set_cons_succ]
                refine wpAnyH_take (i := 18) (oi := { dst := some 68, op := _, type := _, pos := _, after := _, guard := _ }) rfl (by kernel_rfl) (by kernel_rfl) (by kernel_rfl) (fun _ _ _ h => h) (Or.inr ⟨by kernel_rfl, rfl⟩) (by assumption) ?_
                simp only [Act.put, List.setIfInBounds_toArray, List.set_cons_zero, List.set_cons_succ]
                refine wpAnyH_take (i := 19) (oi := { dst := some 69, op := _, type := _, pos := _, after := _, guard := _ }) rfl (by kernel_rfl) (by kernel_rfl) (by kernel_rfl) (fun _ _ _ h => h) (Or.inr ⟨by kernel_rfl, rfl⟩) (by assumption) ?_
                simp only [Act.put, List.setIfInBounds_toArray, List.set_cons_zero, List.set_cons_succ]
                refine wpAnyH_take (i := 20) (oi := { dst := some 70, op := _, type := _, pos := _, after := _, guard := _ }) rfl (by kernel_rfl) (by kernel_rfl) (by kernel_rfl) (fun _ _ _ h => h) (Or.inr ⟨by kernel_rfl, rfl⟩) (by assumption) ?_
                simp only [Act.put, List.setIfInBounds_toArray, List.set_cons_zero, List.set_cons_succ]
                refine wpAnyH_take (i := 21) (oi := { dst := some 71, op := _, type := _, pos := _, after := _, guard := _ }) rfl (by kernel_rfl) (by kernel_rfl) (by kernel_rfl) (fun _ _ _ h => h) (Or.inr ⟨by kernel_rfl, rfl⟩) (by assumption) ?_
                simp only [Act.put, List.setIfInBounds_toArray, List.set_cons_zero, List.set_cons_succ]
                refine wpAnyH_take (i := 22) (oi := { dst := some 72, op := _, type := _, pos := _, after := _, guard := _ }) rfl (by kernel_rfl) (by kernel_rfl) (by kernel_rfl) (fun _ _ _ h => h) (Or.inr ⟨by kernel_rfl, rfl⟩) (by assumption) ?_
                simp only [Act.put, List.setIfInBounds_toArray, List.set_cons_zero, List.set_cons_succ]
                refine wpAnyH_take (i := 23) (oi := { dst := some 73, op := _, type := _, pos := _, after := _, guard := _ }) (v := ?_) rfl (by kernel_rfl) (by kernel_rfl) (by kernel_rfl) (fun _ _ _ h => h) (Or.inl ⟨by rfl, ?_⟩) (by assumption) ?_
                rotate_left
                · intro w hSw; (try dsimp only at hSw); go_simp; (try with_reducible rfl)
                simp only [Act.put, List.setIfInBounds_toArray, List.set_cons_zero, List.set_cons_succ]
                refine wpAnyH_done (by kernel_rfl) ?_ _
                refine NoPanic.normal ?_
                go_wp2
                go_roundw
                case rel => exact ⟨k, q, by omega, by omega, by go_num, rfl, HQ, WK8⟩
                case measure => simp [intOf]; (try omega)
              | true =>
                refine wp_region_noPanic ?_
                refine wp_region_held_drew (S := (fun w' => Hid (W1.grownBy w' none) ∧ Hid (u3.grownBy w' none) ∧ w'.cell? ⟨sb, so + k, none⟩ = some (.slice ai n ci) ∧ w'.cell? ⟨tb, off + i * 9, none⟩ = some (.int .i64 xth) ∧ w'.cell? ⟨tb, off + i * 9 + 1, none⟩ = some (.int .i64 xtx) ∧ w'.cell? ⟨tb, off + i * 9 + 2, none⟩ = some (.int .i64 xat) ∧ w'.cell? ⟨tb, off + i * 9 + 3, none⟩ = some (.int .i64 xst) ∧ w'.cell? ⟨tb, off + i * 9 + 4, none⟩ = some (.int .i64 xb) ∧ w'.cell? ⟨tb, off + i * 9 + 5, none⟩ = some (.int .i64 xen) ∧ w'.cell? ⟨tb, off + i * 9 + 6, none⟩ = some (.int .i64 xre) ∧ w'.cell? ⟨tb, off + i * 9 + 7, none⟩ = some (.bool true) ∧ w'.cell? ⟨tb, off + i * 9 + 8, none⟩ = some (.slice va xac.length vc))) (by kernel_rfl) ?_ (fun hHeld => ?_)
                · go_keep
                refine wpAnyH_take (i := 0) (oi := { dst := some 50, op := _, type := _, pos := _, after := _, guard := _ }) (v := ?_) rfl (by kernel_rfl) (by kernel_rfl) (by kernel_rfl) (fun _ _ _ h => h) (Or.inl ⟨by rfl, ?_⟩) (by assumption) ?_
                rotate_left
                · intro w hSw; (try dsimp only at hSw); go_simp; (try with_reducible rfl)
                simp only [Act.put, List.setIfInBounds_toArray, List.set_cons_zero, List.set_cons_succ]
                refine wpAnyH_take (i := 1) (oi := { dst := some 51, op := _, type := _, pos := _, after := _, guard := _ }) (v := ?_) rfl (by kernel_rfl) (by kernel_rfl) (by kernel_rfl) (fun _ _ _ h => h) (Or.inl ⟨by rfl, ?_⟩) (by assumption) ?_
                rotate_left
                · intro w hSw; (try dsimp only at hSw); go_simp; (try with_reducible rfl)
                simp only [Act.put, List.setIfInBounds_toArray, List.set_cons_zero, List.set_cons_succ]
                refine wpAnyH_take (i := 2) (oi := { dst := some 52, op := _, type := _, pos := _, after := _, guard := _ }) (v := ?_) rfl (by kernel_rfl) (by kernel_rfl) (by kernel_rfl) (fun _ _ _ h => h) (Or.inl ⟨by rfl, ?_⟩) (by assumption) ?_
                rotate_left
                · intro w hSw; (try dsimp only at hSw); go_simp; (try with_reducible rfl)
                simp only [Act.put, List.setIfInBounds_toArray, List.set_cons_zero, List.set_cons_succ]
                refine wpAnyH_take (i := 3) (oi := { dst := some 53, op := _, type := _, pos := _, after := _, guard := _ }) (v := ?_) rfl (by kernel_rfl) (by kernel_rfl) (by kernel_rfl) (fun _ _ _ h => h) (Or.inl ⟨by rfl, ?_⟩) (by assumption) ?_
                rotate_left
                · intro w hSw; (try dsimp only at hSw); go_simp; (try with_reducible rfl)
                simp only [Act.put, List.setIfInBounds_toArray, List.set_cons_zero, List.set_cons_succ]
                refine wpAnyH_take (i := 4) (oi := { dst := some 54, op := _, type := _, pos := _, after := _, guard := _ }) (v := ?_) rfl (by kernel_rfl) (by kernel_rfl) (by kernel_rfl) (fun _ _ _ h => h) (Or.inl ⟨by rfl, ?_⟩) (by assumption) ?_
                rotate_left
                · intro w hSw; (try dsimp only at hSw); go_simp; (try with_reducible rfl)
                simp only [Act.put, List.setIfInBounds_toArray, List.set_cons_zero, List.set_cons_succ]
                refine wpAnyH_take (i := 5) (oi := { dst := some 55, op := _, type := _, pos := _, after := _, guard := _ }) (v := ?_) rfl (by kernel_rfl) (by kernel_rfl) (by kernel_rfl) (fun _ _ _ h => h) (Or.inl ⟨by rfl, ?_⟩) (by assumption) ?_
                rotate_left
                · intro w hSw; (try dsimp only at hSw); go_simp; (try with_reducible rfl)
                simp only [Act.put, List.setIfInBounds_toArray, List.set_cons_zero, List.set_cons_succ]
                refine wpAnyH_take (i := 6) (oi := { dst := some 56, op := _, type := _, pos := _, after := _, guard := _ }) (v := ?_) rfl (by kernel_rfl) (by kernel_rfl) (by kernel_rfl) (fun _ _ _ h => h) (Or.inl ⟨by rfl, ?_⟩) (by assumption) ?_
                rotate_left
                · intro w hSw; (try dsimp only at hSw); go_simp; (try with_reducible rfl)
                simp only [Act.put, List.setIfInBounds_toArray, List.set_cons_zero, List.set_cons_succ]
                refine wpAnyH_take (i := 7) (oi := { dst := some 57, op := _, type := _, pos := _, after := _, guard := _ }) (v := ?_) rfl (by kernel_rfl) (by kernel_rfl) (by kernel_rfl) (fun _ _ _ h => h) (Or.inl ⟨by rfl, ?_⟩) (by assumption) ?_
                rotate_left
                · intro w hSw; (try dsimp only at hSw); go_simp; (try with_reducible rfl)
                simp only [Act.put, List.setIfInBounds_toArray, List.set_cons_zero, List.set_cons_succ]
                refine wpAnyH_ready (rs := [8]) (by kernel_rfl) (by simp) ?_
                refine AllReadyH.cons (o := { dst := some 58, op := _, type := _, pos := _, after := _, guard := _ }) rfl (fun KK hKK => ?_) AllReadyH.nil
                go_simp
                go_at_call 26
                refine (reffits_any ai n ci (stAt z (cacs e _) k) ⟨xth, xtx, xat, xst, xb, _, xre, true, xac⟩ va vc _ (NK.out.grown (by refine Hid.out ?_; assumption)) (HLA.out.grown (by refine Hid.out ?_; assumption)) (by have := HN.out; omega) hac6).mono ?_
                dsimp only
                rw [FT.out]
                rintro r u8 ⟨rfl, g8⟩
                have WK8 : Hid (W1.grownBy u8 none) := Lib.hid (gb_trans (by refine Hid.out ?_; assumption) g8.out); have K8 : Hid (u3.grownBy u8 none) := Lib.hid (gb_trans (by refine Hid.out ?_; assumption) g8.out); have xs8 := K8.out.cell cs (by simp); have x08 := K8.out.cell d0 (by simp); have x18 := K8.out.cell d1 (by simp); have x28 := K8.out.cell d2 (by simp); have x38 := K8.out.cell d3 (by simp); have x48 := K8.out.cell d4 (by simp); have x58 := K8.out.cell d5 (by simp); have x68 := K8.out.cell d6 (by simp); have x78 := K8.out.cell d7 (by simp); have x88 := K8.out.cell d8 (by simp)
                dsimp only
                refine hKK.out _ _ ⟨WK8, K8, xs8, x08, x18, x28, x38, x48, x58, x68, x78, x88⟩ (fun hHeld => ?_)
                clear hKK KK
                try simp only [Act.put, List.setIfInBounds_toArray, List.set_cons_zero, List.set_cons_succ]
                refine wpAnyH_take (i := 9) (oi := { dst := some 59, op := _, type := _, pos := _, after := _, guard := _ }) (v := ?_) rfl (by kernel_rfl) (by kernel_rfl) (by kernel_rfl) (fun _ _ _ h => h) (Or.inl ⟨by rfl, ?_⟩) (by assumption) ?_
                rotate_left
                · intro w hSw; (try dsimp only at hSw); go_simp; (try with_reducible rfl)
                simp only [Act.put, List.setIfInBounds_toArray, List.set_cons_zero, List.set_cons_succ]
                refine wpAnyH_take (i := 10) (oi := { dst := some 60, op := _, type := _, pos := _, after := _, guard := _ }) rfl (by kernel_rfl) (by kernel_rfl) (by kernel_rfl) (fun _ _ _ h => h) (Or.inr ⟨by kernel_rfl, rfl⟩) (by assumption) ?_
                simp only [Act.put, List.setIfInBounds_toArray, List.set_cons_zero, List.set_cons_succ]
                refine wpAnyH_take (i := 11) (oi := { dst := some 61, op := _, type := _, pos := _, after := _, guard := _ }) rfl (by kernel_rfl) (by kernel_rfl) (by kernel_rfl) (fun _ _ _ h => h) (Or.inr ⟨by kernel_rfl, rfl⟩) (by assumption) ?_
                simp only [Act.put, List.setIfInBounds_toArray, List.set_cons_zero, List.set_cons_succ]
                refine wpAnyH_take (i := 12) (oi := { dst := some 62, op := _, type := _, pos := _, after := _, guard := _ }) rfl (by kernel_rfl) (by kernel_rfl) (by kernel_rfl) (fun _ _ _ h => h) (Or.inr ⟨by kernel_rfl, rfl⟩) (by assumption) ?_
                simp only [Act.put, List.setIfInBounds_toArray, List.set_cons_zero, List.set_cons_succ]
                refine wpAnyH_take (i := 13) (oi := { dst := some 63, op := _, type := _, pos := _, after := _, guard := _ }) rfl (by kernel_rfl) (by kernel_rfl) (by kernel_rfl) (fun _ _ _ h => h) (Or.inr ⟨by kernel_rfl, rfl⟩) (by assumption) ?_
                simp only [Act.put, List.setIfInBounds_toArray, List.set_cons_zero, List.set_cons_succ]
                refine wpAnyH_take (i := 14) (oi := { dst := some 64, op := _, type := _, pos := _, after := _, guard := _ }) rfl (by kernel_rfl) (by kernel_rfl) (by kernel_rfl) (fun _ _ _ h => h) (Or.inr ⟨by kernel_rfl, rfl⟩) (by assumption) ?_
                simp only [Act.put, List.setIfInBounds_toArray, List.set_cons_zero, List.set_cons_succ]
                refine wpAnyH_take (i := 15) (oi := { dst := some 65, op := _, type := _, pos := _, after := _, guard := _ }) rfl (by kernel_rfl) (by kernel_rfl) (by kernel_rfl) (fun _ _ _ h => h) (Or.inr ⟨by kernel_rfl, rfl⟩) (by assumption) ?_
                simp only [Act.put, List.setIfInBounds_toArray, List.set_cons_zero, List.set_cons_succ]
                refine wpAnyH_take (i := 16) (oi := { dst := some 66, op := _, type := _, pos := _, after := _, guard := _ }) rfl (by kernel_rfl) (by kernel_rfl) (by kernel_rfl) (fun _ _ _ h => h) (Or.inr ⟨by kernel_rfl, rfl⟩) (by assumption) ?_
                simp only [Act.put, List.setIfInBounds_toArray, List.set_cons_zero, List.set_cons_succ]
                refine wpAnyH_take (i := 17) (oi := { dst := some 67, op := _, type := _, pos := _, after := _, guard := _ }) rfl (by kernel_rfl) (by kernel_rfl) (by kernel_rfl) (fun _ _ _ h => h) (Or.inr ⟨by kernel_rfl, rfl⟩) (by assumption) ?_
                simp only [Act.put, List.setIfInBounds_toArray, List.set_cons_zero, List.set_cons_succ]
                refine wpAnyH_take (i := 18) (oi := { dst := some 68, op := _, type := _, pos := _, after := _, guard := _ }) rfl (by kernel_rfl) (by kernel_rfl) (by kernel_rfl) (fun _ _ _ h => h) (Or.inr ⟨by kernel_rfl, rfl⟩) (by assumption) ?_
                simp only [Act.put, List.setIfInBounds_toArray, List.set_cons_zero, List.set_cons_succ]
                refine wpAnyH_take (i := 19) (oi := { dst := some 69, op := _, type := _, pos := _, after := _, guard := _ }) rfl (by kernel_rfl) (by kernel_rfl) (by kernel_rfl) (fun _ _ _ h => h) (Or.inr ⟨by kernel_rfl, rfl⟩) (by assumption) ?_
                simp only [Act.put, List.setIfInBounds_toArray, List.set_cons_zero, List.set_cons_succ]
                refine wpAnyH_take (i := 20) (oi := { dst := some 70, op := _, type := _, pos := _, after := _, guard := _ }) rfl (by kernel_rfl) (by kernel_rfl) (by kernel_rfl) (fun _ _ _ h => h) (Or.inr ⟨by kernel_rfl, rfl⟩) (by assumption) ?_
                simp only [Act.put, List.setIfInBounds_toArray, List.set_cons_zero, List.set_cons_succ]
                refine wpAnyH_take (i := 21) (oi := { dst := some 71, op := _, type := _, pos := _, after := _, guard := _ }) rfl (by kernel_rfl) (by kernel_rfl) (by kernel_rfl) (fun _ _ _ h => h) (Or.inr ⟨by kernel_rfl, rfl⟩) (by assumption) ?_
                simp only [Act.put, List.setIfInBounds_toArray, List.set_cons_zero, List.set_cons_succ]
                refine wpAnyH_take (i := 22) (oi := { dst := some 72, op := _, type := _, pos := _, after := _, guard := _ }) rfl (by kernel_rfl) (by kernel_rfl) (by kernel_rfl) (fun _ _ _ h => h) (Or.inr ⟨by kernel_rfl, rfl⟩) (by assumption) ?_
                simp only [Act.put, List.setIfInBounds_toArray, List.set_cons_zero, List.set_cons_succ]
                refine wpAnyH_take (i := 23) (oi := { dst := some 73, op := _, type := _, pos := _, after := _, guard := _ }) (v := ?_) rfl (by kernel_rfl) (by kernel_rfl) (by kernel_rfl) (fun _ _ _ h => h) (Or.inl ⟨by rfl, ?_⟩) (by assumption) ?_
                rotate_left
                · intro w hSw; (try dsimp only at hSw); go_simp; (try with_reducible rfl)
                simp only [Act.put, List.setIfInBounds_toArray, List.set_cons_zero, List.set_cons_succ]
                refine wpAnyH_done (by kernel_rfl) ?_ _
                refine NoPanic.normal ?_
                go_wp2
                go_roundw
                case rel => exact ⟨k, q, by omega, by omega, by go_num, rfl, HQ, WK8⟩
                case measure => simp [intOf]; (try omega)
            | true =>
              have FT := Lib.hid hft
              cases xco with
              | false =>
                have HQ := Lib.hid (show IsP _ k hi0 (k : Int) by have := IsP.dn HI.out (show k ≤ hi0 by omega); rw [HDF.out, hft, if_pos (by simp)] at this; exact this)
                clear hft HI
                refine wp_region_noPanic ?_
                refine wp_region_held_drew (S := (fun w' => Hid (W1.grownBy w' none) ∧ Hid (u3.grownBy w' none) ∧ w'.cell? ⟨sb, so + k, none⟩ = some (.slice ai n ci) ∧ w'.cell? ⟨tb, off + i * 9, none⟩ = some (.int .i64 xth) ∧ w'.cell? ⟨tb, off + i * 9 + 1, none⟩ = some (.int .i64 xtx) ∧ w'.cell? ⟨tb, off + i * 9 + 2, none⟩ = some (.int .i64 xat) ∧ w'.cell? ⟨tb, off + i * 9 + 3, none⟩ = some (.int .i64 xst) ∧ w'.cell? ⟨tb, off + i * 9 + 4, none⟩ = some (.int .i64 xb) ∧ w'.cell? ⟨tb, off + i * 9 + 5, none⟩ = some (.int .i64 xen) ∧ w'.cell? ⟨tb, off + i * 9 + 6, none⟩ = some (.int .i64 xre) ∧ w'.cell? ⟨tb, off + i * 9 + 7, none⟩ = some (.bool false) ∧ w'.cell? ⟨tb, off + i * 9 + 8, none⟩ = some (.slice va xac.length vc))) (by kernel_rfl) ?_ (fun hHeld => ?_)
                · go_keep
                refine wpAnyH_take (i := 0) (oi := { dst := some 50, op := _, type := _, pos := _, after := _, guard := _ }) (v := ?_) rfl (by kernel_rfl) (by kernel_rfl) (by kernel_rfl) (fun _ _ _ h => h) (Or.inl ⟨by rfl, ?_⟩) (by assumption) ?_
                rotate_left
                · intro w hSw; (try dsimp only at hSw); go_simp; (try with_reducible rfl)
                simp only [Act.put, List.setIfInBounds_toArray, List.set_cons_zero, List.set_cons_succ]
                refine wpAnyH_take (i := 1) (oi := { dst := some 51, op := _, type := _, pos := _, after := _, guard := _ }) (v := ?_) rfl (by kernel_rfl) (by kernel_rfl) (by kernel_rfl) (fun _ _ _ h => h) (Or.inl ⟨by rfl, ?_⟩) (by assumption) ?_
                rotate_left
                · intro w hSw; (try dsimp only at hSw); go_simp; (try with_reducible rfl)
                simp only [Act.put, List.setIfInBounds_toArray, List.set_cons_zero, List.set_cons_succ]
                refine wpAnyH_take (i := 2) (oi := { dst := some 52, op := _, type := _, pos := _, after := _, guard := _ }) (v := ?_) rfl (by kernel_rfl) (by kernel_rfl) (by kernel_rfl) (fun _ _ _ h => h) (Or.inl ⟨by rfl, ?_⟩) (by assumption) ?_
                rotate_left
                · intro w hSw; (try dsimp only at hSw); go_simp; (try with_reducible rfl)
                simp only [Act.put, List.setIfInBounds_toArray, List.set_cons_zero, List.set_cons_succ]
                refine wpAnyH_take (i := 3) (oi := { dst := some 53, op := _, type := _, pos := _, after := _, guard := _ }) (v := ?_) rfl (by kernel_rfl) (by kernel_rfl) (by kernel_rfl) (fun _ _ _ h => h) (Or.inl ⟨by rfl, ?_⟩) (by assumption) ?_
                rotate_left
                · intro w hSw; (try dsimp only at hSw); go_simp; (try with_reducible rfl)
                simp only [Act.put, List.setIfInBounds_toArray, List.set_cons_zero, List.set_cons_succ]
                refine wpAnyH_take (i := 4) (oi := { dst := some 54, op := _, type := _, pos := _, after := _, guard := _ }) (v := ?_) rfl (by kernel_rfl) (by kernel_rfl) (by kernel_rfl) (fun _ _ _ h => h) (Or.inl ⟨by rfl, ?_⟩) (by assumption) ?_
                rotate_left
                · intro w hSw; (try dsimp only at hSw); go_simp; (try with_reducible rfl)
                simp only [Act.put, List.setIfInBounds_toArray, List.set_cons_zero, List.set_cons_succ]
                refine wpAnyH_take (i := 5) (oi := { dst := some 55, op := _, type := _, pos := _, after := _, guard := _ }) (v := ?_) rfl (by kernel_rfl) (by kernel_rfl) (by kernel_rfl) (fun _ _ _ h => h) (Or.inl ⟨by rfl, ?_⟩) (by assumption) ?_
                rotate_left
                · intro w hSw; (try dsimp only at hSw); go_simp; (try with_reducible rfl)
                simp only [Act.put, List.setIfInBounds_toArray, List.set_cons_zero, List.set_cons_succ]
                refine wpAnyH_take (i := 6) (oi := { dst := some 56, op := _, type := _, pos := _, after := _, guard := _ }) (v := ?_) rfl (by kernel_rfl) (by kernel_rfl) (by kernel_rfl) (fun _ _ _ h => h) (Or.inl ⟨by rfl, ?_⟩) (by assumption) ?_
                rotate_left
                · intro w hSw; (try dsimp only at hSw); go_simp; (try with_reducible rfl)
                simp only [Act.put, List.setIfInBounds_toArray, List.set_cons_zero, List.set_cons_succ]
                refine wpAnyH_take (i := 7) (oi := { dst := some 57, op := _, type := _, pos := _, after := _, guard := _ }) (v := ?_) rfl (by kernel_rfl) (by kernel_rfl) (by kernel_rfl) (fun _ _ _ h => h) (Or.inl ⟨by rfl, ?_⟩) (by assumption) ?_
                rotate_left
                · intro w hSw; (try dsimp only at hSw); go_simp; (try with_reducible rfl)
                simp only [Act.put, List.setIfInBounds_toArray, List.set_cons_zero, List.set_cons_succ]
                refine wpAnyH_ready (rs := [8]) (by kernel_rfl) (by simp) ?_
                refine AllReadyH.cons (o := { dst := some 58, op := _, type := _, pos := _, after := _, guard := _ }) rfl (fun KK hKK => ?_) AllReadyH.nil
                go_simp
                go_at_call 26
                refine (reffits_any ai n ci (stAt z (cacs e _) k) ⟨xth, xtx, xat, xst, xb, _, xre, false, xac⟩ va vc _ (NK.out.grown (by refine Hid.out ?_; assumption)) (HLA.out.grown (by refine Hid.out ?_; assumption)) (by have := HN.out; omega) hac6).mono ?_
                dsimp only
                rw [FT.out]
                rintro r u8 ⟨rfl, g8⟩
                have WK8 : Hid (W1.grownBy u8 none) := Lib.hid (gb_trans (by refine Hid.out ?_; assumption) g8.out); have K8 : Hid (u3.grownBy u8 none) := Lib.hid (gb_trans (by refine Hid.out ?_; assumption) g8.out); have xs8 := K8.out.cell cs (by simp); have x08 := K8.out.cell d0 (by simp); have x18 := K8.out.cell d1 (by simp); have x28 := K8.out.cell d2 (by simp); have x38 := K8.out.cell d3 (by simp); have x48 := K8.out.cell d4 (by simp); have x58 := K8.out.cell d5 (by simp); have x68 := K8.out.cell d6 (by simp); have x78 := K8.out.cell d7 (by simp); have x88 := K8.out.cell d8 (by simp)
                dsimp only
                refine hKK.out _ _ ⟨WK8, K8, xs8, x08, x18, x28, x38, x48, x58, x68, x78, x88⟩ (fun hHeld => ?_)
                clear hKK KK
                try simp only [Act.put, List.setIfInBounds_toArray, List.set_cons_zero, List.set_cons_succ]
                refine wpAnyH_take (i := 9) (oi := { dst := some 59, op := _, type := _, pos := _, after := _, guard := _ }) (v := ?_) rfl (by kernel_rfl) (by kernel_rfl) (by kernel_rfl) (fun _ _ _ h => h) (Or.inl ⟨by rfl, ?_⟩) (by assumption) ?_
                rotate_left
                · intro w hSw; (try dsimp only at hSw); go_simp; (try with_reducible rfl)
                simp only [Act.put, List.setIfInBounds_toArray, List.set_cons_zero, List.set_cons_succ]
                refine wpAnyH_take (i := 10) (oi := { dst := some 60, op := _, type := _, pos := _, after := _, guard := _ }) (v := ?_) rfl (by kernel_rfl) (by kernel_rfl) (by kernel_rfl) (fun _ _ _ h => h) (Or.inl ⟨by rfl, ?_⟩) (by assumption) ?_
                rotate_left
                · intro w hSw; (try dsimp only at hSw); go_simp; (try with_reducible rfl)
                simp only [Act.put, List.setIfInBounds_toArray, List.set_cons_zero, List.set_cons_succ]
                refine wpAnyH_take (i := 11) (oi := { dst := some 61, op := _, type := _, pos := _, after := _, guard := _ }) (v := ?_) rfl (by kernel_rfl) (by kernel_rfl) (by kernel_rfl) (fun _ _ _ h => h) (Or.inl ⟨by rfl, ?_⟩) (by assumption) ?_
                rotate_left
                · intro w hSw; (try dsimp only at hSw); go_simp; (try with_reducible rfl)
                simp only [Act.put, List.setIfInBounds_toArray, List.set_cons_zero, List.set_cons_succ]
                refine wpAnyH_take (i := 12) (oi := { dst := some 62, op := _, type := _, pos := _, after := _, guard := _ }) (v := ?_) rfl (by kernel_rfl) (by kernel_rfl) (by kernel_rfl) (fun _ _ _ h => h) (Or.inl ⟨by rfl, ?_⟩) (by assumption) ?_
                rotate_left
                · intro w hSw; (try dsimp only at hSw); go_simp; (try with_reducible rfl)
                simp only [Act.put, List.setIfInBounds_toArray, List.set_cons_zero, List.set_cons_succ]
                refine wpAnyH_take (i := 13) (oi := { dst := some 63, op := _, type := _, pos := _, after := _, guard := _ }) (v := ?_) rfl (by kernel_rfl) (by kernel_rfl) (by kernel_rfl) (fun _ _ _ h => h) (Or.inl ⟨by rfl, ?_⟩) (by assumption) ?_
                rotate_left
                · intro w hSw; (try dsimp only at hSw); go_simp; (try with_reducible rfl)
                simp only [Act.put, List.setIfInBounds_toArray, List.set_cons_zero, List.set_cons_succ]
                refine wpAnyH_take (i := 14) (oi := { dst := some 64, op := _, type := _, pos := _, after := _, guard := _ }) (v := ?_) rfl (by kernel_rfl) (by kernel_rfl) (by kernel_rfl) (fun _ _ _ h => h) (Or.inl ⟨by rfl, ?_⟩) (by assumption) ?_
                rotate_left
                · intro w hSw; (try dsimp only at hSw); go_simp; (try with_reducible rfl)
                simp only [Act.put, List.setIfInBounds_toArray, List.set_cons_zero, List.set_cons_succ]
                refine wpAnyH_take (i := 15) (oi := { dst := some 65, op := _, type := _, pos := _, after := _, guard := _ }) (v := ?_) rfl (by kernel_rfl) (by kernel_rfl) (by kernel_rfl) (fun _ _ _ h => h) (Or.inl ⟨by rfl, ?_⟩) (by assumption) ?_
                rotate_left
                · intro w hSw; (try dsimp only at hSw); go_simp; (try with_reducible rfl)
                simp only [Act.put, List.setIfInBounds_toArray, List.set_cons_zero, List.set_cons_succ]
                refine wpAnyH_take (i := 16) (oi := { dst := some 66, op := _, type := _, pos := _, after := _, guard := _ }) (v := ?_) rfl (by kernel_rfl) (by kernel_rfl) (by kernel_rfl) (fun _ _ _ h => h) (Or.inl ⟨by rfl, ?_⟩) (by assumption) ?_
                rotate_left
                · intro w hSw; (try dsimp only at hSw); go_simp; (try with_reducible rfl)
                simp only [Act.put, List.setIfInBounds_toArray, List.set_cons_zero, List.set_cons_succ]
                refine wpAnyH_take (i := 17) (oi := { dst := some 67, op := _, type := _, pos := _, after := _, guard := _ }) rfl (by kernel_rfl) (by kernel_rfl) (by kernel_rfl) (fun _ _ _ h => h) (Or.inr ⟨by kernel_rfl, rfl⟩) (by assumption) ?_
                simp only [Act.put, List.setIfInBounds_toArray, List.set_cons_zero, List.set_cons_succ]
                refine wpAnyH_take (i := 18) (oi := { dst := some 68, op := _, type := _, pos := _, after := _, guard := _ }) rfl (by kernel_rfl) (by kernel_rfl) (by kernel_rfl) (fun _ _ _ h => h) (Or.inr ⟨by kernel_rfl, rfl⟩) (by assumption) ?_
                simp only [Act.put, List.setIfInBounds_toArray, List.set_cons_zero, List.set_cons_succ]
                refine wpAnyH_take (i := 19) (oi := { dst := some 69, op := _, type := _, pos := _, after := _, guard := _ }) rfl (by kernel_rfl) (by kernel_rfl) (by kernel_rfl) (fun _ _ _ h => h) (Or.inr ⟨by kernel_rfl, rfl⟩) (by assumption) ?_
                simp only [Act.put, List.setIfInBounds_toArray, List.set_cons_zero, List.set_cons_succ]
                refine wpAnyH_take (i := 20) (oi := { dst := some 70, op := _, type := _, pos := _, after := _, guard := _ }) rfl (by kernel_rfl) (by kernel_rfl) (by kernel_rfl) (fun _ _ _ h => h) (Or.inr ⟨by kernel_rfl, rfl⟩) (by assumption) ?_
                simp only [Act.put, List.setIfInBounds_toArray, List.set_cons_zero, List.set_cons_succ]
                refine wpAnyH_take (i := 21) (oi := { dst := some 71, op := _, type := _, pos := _, after := _, guard := _ }) rfl (by kernel_rfl) (by kernel_rfl) (by kernel_rfl) (fun _ _ _ h => h) (Or.inr ⟨by kernel_rfl, rfl⟩) (by assumption) ?_
                simp only [Act.put, List.setIfInBounds_toArray, List.set_cons_zero, List.set_cons_succ]
                refine wpAnyH_take (i := 22) (oi := { dst := some 72, op := _, type := _, pos := _, after := _, guard := _ }) (v := ?_) rfl (by kernel_rfl) (by kernel_rfl) (by kernel_rfl) (fun _ _ _ h => h) (Or.inl ⟨by rfl, ?_⟩) (by assumption) ?_
                rotate_left
                · intro w hSw; (try dsimp only at hSw); go_simp; (try with_reducible rfl)
                simp only [Act.put, List.setIfInBounds_toArray, List.set_cons_zero, List.set_cons_succ]
                refine wpAnyH_take (i := 23) (oi := { dst := some 73, op := _, type := _, pos := _, after := _, guard := _ }) (v := ?_) rfl (by kernel_rfl) (by kernel_rfl) (by kernel_rfl) (fun _ _ _ h => h) (Or.inl ⟨by rfl, ?_⟩) (by assumption) ?_
                rotate_left
                · intro w hSw; (try dsimp only at hSw); go_simp; (try with_reducible rfl)
                simp only [Act.put, List.setIfInBounds_toArray, List.set_cons_zero, List.set_cons_succ]
                refine wpAnyH_done (by kernel_rfl) ?_ _
                refine NoPanic.normal ?_
                go_wp2
                go_roundw
                case rel => exact ⟨k, k, by omega, by omega, by go_num, rfl, HQ, WK8⟩
                case measure => simp [intOf]; (try omega)
              | true =>
                by_cases hkh : k = hi0
                · have hke : ((k : Int) == hz) = true := by rw [HHZ.out]; simp [hkh]
                  have HQ := Lib.hid (show IsP _ k hi0 (k : Int) by have := IsP.dn HI.out (show k ≤ hi0 by omega); rw [HDF.out, hft, if_pos (by simp [hkh])] at this; exact this)
                  clear hft HI hkh
                  refine wp_region_noPanic ?_
                  refine wp_region_held_drew (S := (fun w' => Hid (W1.grownBy w' none) ∧ Hid (u3.grownBy w' none) ∧ w'.cell? ⟨sb, so + k, none⟩ = some (.slice ai n ci) ∧ w'.cell? ⟨tb, off + i * 9, none⟩ = some (.int .i64 xth) ∧ w'.cell? ⟨tb, off + i * 9 + 1, none⟩ = some (.int .i64 xtx) ∧ w'.cell? ⟨tb, off + i * 9 + 2, none⟩ = some (.int .i64 xat) ∧ w'.cell? ⟨tb, off + i * 9 + 3, none⟩ = some (.int .i64 xst) ∧ w'.cell? ⟨tb, off + i * 9 + 4, none⟩ = some (.int .i64 xb) ∧ w'.cell? ⟨tb, off + i * 9 + 5, none⟩ = some (.int .i64 xen) ∧ w'.cell? ⟨tb, off + i * 9 + 6, none⟩ = some (.int .i64 xre) ∧ w'.cell? ⟨tb, off + i * 9 + 7, none⟩ = some (.bool true) ∧ w'.cell? ⟨tb, off + i * 9 + 8, none⟩ = some (.slice va xac.length vc))) (by kernel_rfl) ?_ (fun hHeld => ?_)
                  · go_keep
                  refine wpAnyH_take (i := 0) (oi := { dst := some 50, op := _, type := _, pos := _, after := _, guard := _ }) (v := ?_) rfl (by kernel_rfl) (by kernel_rfl) (by kernel_rfl) (fun _ _ _ h => h) (Or.inl ⟨by rfl, ?_⟩) (by assumption) ?_
                  rotate_left
                  · intro w hSw; (try dsimp only at hSw); go_simp; (try with_reducible rfl)
                  simp only [Act.put, List.setIfInBounds_toArray, List.set_cons_zero, List.set_cons_succ]
                  refine wpAnyH_take (i := 1) (oi := { dst := some 51, op := _, type := _, pos := _, after := _, guard := _ }) (v := ?_) rfl (by kernel_rfl) (by kernel_rfl) (by kernel_rfl) (fun _ _ _ h => h) (Or.inl ⟨by rfl, ?_⟩) (by assumption) ?_
                  rotate_left
                  · intro w hSw; (try dsimp only at hSw); go_simp; (try with_reducible rfl)
                  simp only [Act.put, List.setIfInBounds_toArray, List.set_cons_zero, List.set_cons_succ]
                  refine wpAnyH_take (i := 2) (oi := { dst := some 52, op := _, type := _, pos := _, after := _, guard := _ }) (v := ?_) rfl (by kernel_rfl) (by kernel_rfl) (by kernel_rfl) (fun _ _ _ h => h) (Or.inl ⟨by rfl, ?_⟩) (by assumption) ?_
                  rotate_left
                  · intro w hSw; (try dsimp only at hSw); go_simp; (try with_reducible rfl)
                  simp only [Act.put, List.setIfInBounds_toArray, List.set_cons_zero, List.set_cons_succ]
                  refine wpAnyH_take (i := 3) (oi := { dst := some 53, op := _, type := _, pos := _, after := _, guard := _ }) (v := ?_) rfl (by kernel_rfl) (by kernel_rfl) (by kernel_rfl) (fun _ _ _ h => h) (Or.inl ⟨by rfl, ?_⟩) (by assumption) ?_
                  rotate_left
                  · intro w hSw; (try dsimp only at hSw); go_simp; (try with_reducible rfl)
                  simp only [Act.put, List.setIfInBounds_toArray, List.set_cons_zero, List.set_cons_succ]
                  refine wpAnyH_take (i := 4) (oi := { dst := some 54, op := _, type := _, pos := _, after := _, guard := _ }) (v := ?_) rfl (by kernel_rfl) (by kernel_rfl) (by kernel_rfl) (fun _ _ _ h => h) (Or.inl ⟨by rfl, ?_⟩) (by assumption) ?_
                  rotate_left
                  · intro w hSw; (try dsimp only at hSw); go_simp; (try with_reducible rfl)
                  simp only [Act.put, List.setIfInBounds_toArray, List.set_cons_zero, List.set_cons_succ]
                  refine wpAnyH_take (i := 5) (oi := { dst := some 55, op := _, type := _, pos := _, after := _, guard := _ }) (v := ?_) rfl (by kernel_rfl) (by kernel_rfl) (by kernel_rfl) (fun _ _ _ h => h) (Or.inl ⟨by rfl, ?_⟩) (by assumption) ?_
                  rotate_left
                  · intro w hSw; (try dsimp only at hSw); go_simp; (try with_reducible rfl)
                  simp only [Act.put, List.setIfInBounds_toArray, List.set_cons_zero, List.set_cons_succ]
                  refine wpAnyH_take (i := 6) (oi := { dst := some 56, op := _, type := _, pos := _, after := _, guard := _ }) (v := ?_) rfl (by kernel_rfl) (by kernel_rfl) (by kernel_rfl) (fun _ _ _ h => h) (Or.inl ⟨by rfl, ?_⟩) (by assumption) ?_
                  rotate_left
                  · intro w hSw; (try dsimp only at hSw); go_simp; (try with_reducible rfl)
                  simp only [Act.put, List.setIfInBounds_toArray, List.set_cons_zero, List.set_cons_succ]
                  refine wpAnyH_take (i := 7) (oi := { dst := some 57, op := _, type := _, pos := _, after := _, guard := _ }) (v := ?_) rfl (by kernel_rfl) (by kernel_rfl) (by kernel_rfl) (fun _ _ _ h => h) (Or.inl ⟨by rfl, ?_⟩) (by assumption) ?_
                  rotate_left
                  · intro w hSw; (try dsimp only at hSw); go_simp; (try with_reducible rfl)
                  simp only [Act.put, List.setIfInBounds_toArray, List.set_cons_zero, List.set_cons_succ]
                  refine wpAnyH_ready (rs := [8]) (by kernel_rfl) (by simp) ?_
                  refine AllReadyH.cons (o := { dst := some 58, op := _, type := _, pos := _, after := _, guard := _ }) rfl (fun KK hKK => ?_) AllReadyH.nil
                  go_simp
                  go_at_call 26
                  refine (reffits_any ai n ci (stAt z (cacs e _) k) ⟨xth, xtx, xat, xst, xb, _, xre, true, xac⟩ va vc _ (NK.out.grown (by refine Hid.out ?_; assumption)) (HLA.out.grown (by refine Hid.out ?_; assumption)) (by have := HN.out; omega) hac6).mono ?_
                  dsimp only
                  rw [FT.out]
                  rintro r u8 ⟨rfl, g8⟩
                  have WK8 : Hid (W1.grownBy u8 none) := Lib.hid (gb_trans (by refine Hid.out ?_; assumption) g8.out); have K8 : Hid (u3.grownBy u8 none) := Lib.hid (gb_trans (by refine Hid.out ?_; assumption) g8.out); have xs8 := K8.out.cell cs (by simp); have x08 := K8.out.cell d0 (by simp); have x18 := K8.out.cell d1 (by simp); have x28 := K8.out.cell d2 (by simp); have x38 := K8.out.cell d3 (by simp); have x48 := K8.out.cell d4 (by simp); have x58 := K8.out.cell d5 (by simp); have x68 := K8.out.cell d6 (by simp); have x78 := K8.out.cell d7 (by simp); have x88 := K8.out.cell d8 (by simp)
                  dsimp only
                  refine hKK.out _ _ ⟨WK8, K8, xs8, x08, x18, x28, x38, x48, x58, x68, x78, x88⟩ (fun hHeld => ?_)
                  clear hKK KK
                  try simp only [Act.put, List.setIfInBounds_toArray, List.set_cons_zero, List.set_cons_succ]
                  refine wpAnyH_take (i := 9) (oi := { dst := some 59, op := _, type := _, pos := _, after := _, guard := _ }) (v := ?_) rfl (by kernel_rfl) (by kernel_rfl) (by kernel_rfl) (fun _ _ _ h => h) (Or.inl ⟨by rfl, ?_⟩) (by assumption) ?_
                  rotate_left
                  · intro w hSw; (try dsimp only at hSw); go_simp; (try with_reducible rfl)
                  simp only [Act.put, List.setIfInBounds_toArray, List.set_cons_zero, List.set_cons_succ]
                  refine wpAnyH_take (i := 10) (oi := { dst := some 60, op := _, type := _, pos := _, after := _, guard := _ }) (v := ?_) rfl (by kernel_rfl) (by kernel_rfl) (by kernel_rfl) (fun _ _ _ h => h) (Or.inl ⟨by rfl, ?_⟩) (by assumption) ?_
                  rotate_left
                  · intro w hSw; (try dsimp only at hSw); go_simp; (try with_reducible rfl)
                  simp only [Act.put, List.setIfInBounds_toArray, List.set_cons_zero, List.set_cons_succ]
                  refine wpAnyH_take (i := 11) (oi := { dst := some 61, op := _, type := _, pos := _, after := _, guard := _ }) (v := ?_) rfl (by kernel_rfl) (by kernel_rfl) (by kernel_rfl) (fun _ _ _ h => h) (Or.inl ⟨by rfl, ?_⟩) (by assumption) ?_
                  rotate_left
                  · intro w hSw; (try dsimp only at hSw); go_simp; (try with_reducible rfl)
                  simp only [Act.put, List.setIfInBounds_toArray, List.set_cons_zero, List.set_cons_succ]
                  refine wpAnyH_take (i := 12) (oi := { dst := some 62, op := _, type := _, pos := _, after := _, guard := _ }) (v := ?_) rfl (by kernel_rfl) (by kernel_rfl) (by kernel_rfl) (fun _ _ _ h => h) (Or.inl ⟨by rfl, ?_⟩) (by assumption) ?_
                  rotate_left
                  · intro w hSw; (try dsimp only at hSw); go_simp; (try with_reducible rfl)
                  simp only [Act.put, List.setIfInBounds_toArray, List.set_cons_zero, List.set_cons_succ]
                  refine wpAnyH_take (i := 13) (oi := { dst := some 63, op := _, type := _, pos := _, after := _, guard := _ }) (v := ?_) rfl (by kernel_rfl) (by kernel_rfl) (by kernel_rfl) (fun _ _ _ h => h) (Or.inl ⟨by rfl, ?_⟩) (by assumption) ?_
                  rotate_left
                  · intro w hSw; (try dsimp only at hSw); go_simp; (try with_reducible rfl)
                  simp only [Act.put, List.setIfInBounds_toArray, List.set_cons_zero, List.set_cons_succ]
                  refine wpAnyH_take (i := 14) (oi := { dst := some 64, op := _, type := _, pos := _, after := _, guard := _ }) (v := ?_) rfl (by kernel_rfl) (by kernel_rfl) (by kernel_rfl) (fun _ _ _ h => h) (Or.inl ⟨by rfl, ?_⟩) (by assumption) ?_
                  rotate_left
                  · intro w hSw; (try dsimp only at hSw); go_simp; (try with_reducible rfl)
                  simp only [Act.put, List.setIfInBounds_toArray, List.set_cons_zero, List.set_cons_succ]
                  refine wpAnyH_take (i := 15) (oi := { dst := some 65, op := _, type := _, pos := _, after := _, guard := _ }) (v := ?_) rfl (by kernel_rfl) (by kernel_rfl) (by kernel_rfl) (fun _ _ _ h => h) (Or.inl ⟨by rfl, ?_⟩) (by assumption) ?_
                  rotate_left
                  · intro w hSw; (try dsimp only at hSw); go_simp; (try with_reducible rfl)
                  simp only [Act.put, List.setIfInBounds_toArray, List.set_cons_zero, List.set_cons_succ]
                  refine wpAnyH_take (i := 16) (oi := { dst := some 66, op := _, type := _, pos := _, after := _, guard := _ }) (v := ?_) rfl (by kernel_rfl) (by kernel_rfl) (by kernel_rfl) (fun _ _ _ h => h) (Or.inl ⟨by rfl, ?_⟩) (by assumption) ?_
                  rotate_left
                  · intro w hSw; (try dsimp only at hSw); go_simp; (try with_reducible rfl)
                  simp only [Act.put, List.setIfInBounds_toArray, List.set_cons_zero, List.set_cons_succ]
                  refine wpAnyH_take (i := 17) (oi := { dst := some 67, op := _, type := _, pos := _, after := _, guard := _ }) (v := ?_) rfl (by kernel_rfl) (by kernel_rfl) (by kernel_rfl) (fun _ _ _ h => h) (Or.inl ⟨by rfl, ?_⟩) (by assumption) ?_
                  rotate_left
                  · intro w hSw; (try dsimp only at hSw); go_simp; (try with_reducible rfl)
                  simp only [Act.put, List.setIfInBounds_toArray, List.set_cons_zero, List.set_cons_succ]
                  refine wpAnyH_take (i := 18) (oi := { dst := some 68, op := _, type := _, pos := _, after := _, guard := _ }) (v := ?_) rfl (by kernel_rfl) (by kernel_rfl) (by kernel_rfl) (fun _ _ _ h => h) (Or.inl ⟨by rfl, ?_⟩) (by assumption) ?_
                  rotate_left
                  · intro w hSw; (try dsimp only at hSw); go_simp; (try with_reducible rfl)
                  simp only [Act.put, List.setIfInBounds_toArray, List.set_cons_zero, List.set_cons_succ]
                  refine wpAnyH_take (i := 19) (oi := { dst := some 69, op := _, type := _, pos := _, after := _, guard := _ }) (v := ?_) rfl (by kernel_rfl) (by kernel_rfl) (by kernel_rfl) (fun _ _ _ h => h) (Or.inl ⟨by rfl, ?_⟩) (by assumption) ?_
                  rotate_left
                  · intro w hSw; (try dsimp only at hSw); go_simp; (try with_reducible rfl)
                  simp only [Act.put, List.setIfInBounds_toArray, List.set_cons_zero, List.set_cons_succ]
                  refine wpAnyH_ready (rs := [20]) (by kernel_rfl) (by simp) ?_
                  refine AllReadyH.cons (o := { dst := some 70, op := _, type := _, pos := _, after := _, guard := _ }) rfl (fun KK hKK => ?_) AllReadyH.nil
                  go_simp
                  go_at_call 25
                  refine (BE.out _ (by assumption)).mono ?_
                  rintro r u9 ⟨rfl, g9⟩
                  have WK9 : Hid (W1.grownBy u9 none) := Lib.hid (gb_trans (by refine Hid.out ?_; assumption) g9.out); have K9 : Hid (u3.grownBy u9 none) := Lib.hid (gb_trans (by refine Hid.out ?_; assumption) g9.out); have xs9 := K9.out.cell cs (by simp); have x09 := K9.out.cell d0 (by simp); have x19 := K9.out.cell d1 (by simp); have x29 := K9.out.cell d2 (by simp); have x39 := K9.out.cell d3 (by simp); have x49 := K9.out.cell d4 (by simp); have x59 := K9.out.cell d5 (by simp); have x69 := K9.out.cell d6 (by simp); have x79 := K9.out.cell d7 (by simp); have x89 := K9.out.cell d8 (by simp); clear WK8 K8 xs8 x08 x18 x28 x38 x48 x58 x68 x78 x88
                  dsimp only
                  refine hKK.out _ _ ⟨WK9, K9, xs9, x09, x19, x29, x39, x49, x59, x69, x79, x89⟩ (fun hHeld => ?_)
                  clear hKK KK
                  try simp only [Act.put, List.setIfInBounds_toArray, List.set_cons_zero, List.set_cons_succ]
                  refine wpAnyH_take (i := 21) (oi := { dst := some 71, op := _, type := _, pos := _, after := _, guard := _ }) (v := ?_) rfl (by kernel_rfl) (by kernel_rfl) (by kernel_rfl) (fun _ _ _ h => h) (Or.inl ⟨by rfl, ?_⟩) (by assumption) ?_
                  rotate_left
                  · intro w hSw; (try dsimp only at hSw); go_simp; (try with_reducible rfl)
                  simp only [Act.put, List.setIfInBounds_toArray, List.set_cons_zero, List.set_cons_succ]
                  refine wpAnyH_take (i := 22) (oi := { dst := some 72, op := _, type := _, pos := _, after := _, guard := _ }) (v := ?_) rfl (by kernel_rfl) (by kernel_rfl) (by kernel_rfl) (fun _ _ _ h => h) (Or.inl ⟨by rfl, ?_⟩) (by assumption) ?_
                  rotate_left
                  · intro w hSw; (try dsimp only at hSw); go_simp; (try with_reducible rfl)
                  simp only [Act.put, List.setIfInBounds_toArray, List.set_cons_zero, List.set_cons_succ]
                  refine wpAnyH_take (i := 23) (oi := { dst := some 73, op := _, type := _, pos := _, after := _, guard := _ }) (v := ?_) rfl (by kernel_rfl) (by kernel_rfl) (by kernel_rfl) (fun _ _ _ h => h) (Or.inl ⟨by rfl, ?_⟩) (by assumption) ?_
                  rotate_left
                  · intro w hSw; (try dsimp only at hSw); go_simp; (try with_reducible rfl)
                  simp only [Act.put, List.setIfInBounds_toArray, List.set_cons_zero, List.set_cons_succ]
                  refine wpAnyH_done (by kernel_rfl) ?_ _
                  refine NoPanic.normal ?_
                  go_wp2
                  go_roundw
                  case rel => exact ⟨k, k, by omega, by omega, by go_num, rfl, HQ, WK9⟩
                  case measure => simp [intOf]; (try omega)
                · have hke : ((k : Int) == hz) = false := by rw [HHZ.out]; simp; omega
                  have HQ := Lib.hid (show IsP _ k hi0 q by have := IsP.dn HI.out (show k ≤ hi0 by omega); rw [HDF.out, hft, if_neg (by simp [hkh])] at this; exact this)
                  clear hft HI hkh
                  refine wp_region_noPanic ?_
                  refine wp_region_held_drew (S := (fun w' => Hid (W1.grownBy w' none) ∧ Hid (u3.grownBy w' none) ∧ w'.cell? ⟨sb, so + k, none⟩ = some (.slice ai n ci) ∧ w'.cell? ⟨tb, off + i * 9, none⟩ = some (.int .i64 xth) ∧ w'.cell? ⟨tb, off + i * 9 + 1, none⟩ = some (.int .i64 xtx) ∧ w'.cell? ⟨tb, off + i * 9 + 2, none⟩ = some (.int .i64 xat) ∧ w'.cell? ⟨tb, off + i * 9 + 3, none⟩ = some (.int .i64 xst) ∧ w'.cell? ⟨tb, off + i * 9 + 4, none⟩ = some (.int .i64 xb) ∧ w'.cell? ⟨tb, off + i * 9 + 5, none⟩ = some (.int .i64 xen) ∧ w'.cell? ⟨tb, off + i * 9 + 6, none⟩ = some (.int .i64 xre) ∧ w'.cell? ⟨tb, off + i * 9 + 7, none⟩ = some (.bool true) ∧ w'.cell? ⟨tb, off + i * 9 + 8, none⟩ = some (.slice va xac.length vc))) (by kernel_rfl) ?_ (fun hHeld => ?_)
                  · go_keep
                  refine wpAnyH_take (i := 0) (oi := { dst := some 50, op := _, type := _, pos := _, after := _, guard := _ }) (v := ?_) rfl (by kernel_rfl) (by kernel_rfl) (by kernel_rfl) (fun _ _ _ h => h) (Or.inl ⟨by rfl, ?_⟩) (by assumption) ?_
                  rotate_left
                  · intro w hSw; (try dsimp only at hSw); go_simp; (try with_reducible rfl)
                  simp only [Act.put, List.setIfInBounds_toArray, List.set_cons_zero, List.set_cons_succ]
                  refine wpAnyH_take (i := 1) (oi := { dst := some 51, op := _, type := _, pos := _, after := _, guard := _ }) (v := ?_) rfl (by kernel_rfl) (by kernel_rfl) (by kernel_rfl) (fun _ _ _ h => h) (Or.inl ⟨by rfl, ?_⟩) (by assumption) ?_
                  rotate_left
                  · intro w hSw; (try dsimp only at hSw); go_simp; (try with_reducible rfl)
                  simp only [Act.put, List.setIfInBounds_toArray, List.set_cons_zero, List.set_cons_succ]
                  refine wpAnyH_take (i := 2) (oi := { dst := some 52, op := _, type := _, pos := _, after := _, guard := _ }) (v := ?_) rfl (by kernel_rfl) (by kernel_rfl) (by kernel_rfl) (fun _ _ _ h => h) (Or.inl ⟨by rfl, ?_⟩) (by assumption) ?_
                  rotate_left
                  · intro w hSw; (try dsimp only at hSw); go_simp; (try with_reducible rfl)
                  simp only [Act.put, List.setIfInBounds_toArray, List.set_cons_zero, List.set_cons_succ]
                  refine wpAnyH_take (i := 3) (oi := { dst := some 53, op := _, type := _, pos := _, after := _, guard := _ }) (v := ?_) rfl (by kernel_rfl) (by kernel_rfl) (by kernel_rfl) (fun _ _ _ h => h) (Or.inl ⟨by rfl, ?_⟩) (by assumption) ?_
                  rotate_left
                  · intro w hSw; (try dsimp only at hSw); go_simp; (try with_reducible rfl)
                  simp only [Act.put, List.setIfInBounds_toArray, List.set_cons_zero, List.set_cons_succ]
                  refine wpAnyH_take (i := 4) (oi := { dst := some 54, op := _, type := _, pos := _, after := _, guard := _ }) (v := ?_) rfl (by kernel_rfl) (by kernel_rfl) (by kernel_rfl) (fun _ _ _ h => h) (Or.inl ⟨by rfl, ?_⟩) (by assumption) ?_
                  rotate_left
                  · intro w hSw; (try dsimp only at hSw); go_simp; (try with_reducible rfl)
                  simp only [Act.put, List.setIfInBounds_toArray, List.set_cons_zero, List.set_cons_succ]
                  refine wpAnyH_take (i := 5) (oi := { dst := some 55, op := _, type := _, pos := _, after := _, guard := _ }) (v := ?_) rfl (by kernel_rfl) (by kernel_rfl) (by kernel_rfl) (fun _ _ _ h => h) (Or.inl ⟨by rfl, ?_⟩) (by assumption) ?_
                  rotate_left
                  · intro w hSw; (try dsimp only at hSw); go_simp; (try with_reducible rfl)
                  simp only [Act.put, List.setIfInBounds_toArray, List.set_cons_zero, List.set_cons_succ]
                  refine wpAnyH_take (i := 6) (oi := { dst := some 56, op := _, type := _, pos := _, after := _, guard := _ }) (v := ?_) rfl (by kernel_rfl) (by kernel_rfl) (by kernel_rfl) (fun _ _ _ h => h) (Or.inl ⟨by rfl, ?_⟩) (by assumption) ?_
                  rotate_left
                  · intro w hSw; (try dsimp only at hSw); go_simp; (try with_reducible rfl)
                  simp only [Act.put, List.setIfInBounds_toArray, List.set_cons_zero, List.set_cons_succ]
                  refine wpAnyH_take (i := 7) (oi := { dst := some 57, op := _, type := _, pos := _, after := _, guard := _ }) (v := ?_) rfl (by kernel_rfl) (by kernel_rfl) (by kernel_rfl) (fun _ _ _ h => h) (Or.inl ⟨by rfl, ?_⟩) (by assumption) ?_
                  rotate_left
                  · intro w hSw; (try dsimp only at hSw); go_simp; (try with_reducible rfl)
                  simp only [Act.put, List.setIfInBounds_toArray, List.set_cons_zero, List.set_cons_succ]
                  refine wpAnyH_ready (rs := [8]) (by kernel_rfl) (by simp) ?_
                  refine AllReadyH.cons (o := { dst := some 58, op := _, type := _, pos := _, after := _, guard := _ }) rfl (fun KK hKK => ?_) AllReadyH.nil
                  go_simp
                  go_at_call 26
                  refine (reffits_any ai n ci (stAt z (cacs e _) k) ⟨xth, xtx, xat, xst, xb, _, xre, true, xac⟩ va vc _ (NK.out.grown (by refine Hid.out ?_; assumption)) (HLA.out.grown (by refine Hid.out ?_; assumption)) (by have := HN.out; omega) hac6).mono ?_
                  dsimp only
                  rw [FT.out]
                  rintro r u8 ⟨rfl, g8⟩
                  have WK8 : Hid (W1.grownBy u8 none) := Lib.hid (gb_trans (by refine Hid.out ?_; assumption) g8.out); have K8 : Hid (u3.grownBy u8 none) := Lib.hid (gb_trans (by refine Hid.out ?_; assumption) g8.out); have xs8 := K8.out.cell cs (by simp); have x08 := K8.out.cell d0 (by simp); have x18 := K8.out.cell d1 (by simp); have x28 := K8.out.cell d2 (by simp); have x38 := K8.out.cell d3 (by simp); have x48 := K8.out.cell d4 (by simp); have x58 := K8.out.cell d5 (by simp); have x68 := K8.out.cell d6 (by simp); have x78 := K8.out.cell d7 (by simp); have x88 := K8.out.cell d8 (by simp)
                  dsimp only
                  refine hKK.out _ _ ⟨WK8, K8, xs8, x08, x18, x28, x38, x48, x58, x68, x78, x88⟩ (fun hHeld => ?_)
                  clear hKK KK
                  try simp only [Act.put, List.setIfInBounds_toArray, List.set_cons_zero, List.set_cons_succ]
                  refine wpAnyH_take (i := 9) (oi := { dst := some 59, op := _, type := _, pos := _, after := _, guard := _ }) (v := ?_) rfl (by kernel_rfl) (by kernel_rfl) (by kernel_rfl) (fun _ _ _ h => h) (Or.inl ⟨by rfl, ?_⟩) (by assumption) ?_
                  rotate_left
                  · intro w hSw; (try dsimp only at hSw); go_simp; (try with_reducible rfl)
                  simp only [Act.put, List.setIfInBounds_toArray, List.set_cons_zero, List.set_cons_succ]
                  refine wpAnyH_take (i := 10) (oi := { dst := some 60, op := _, type := _, pos := _, after := _, guard := _ }) (v := ?_) rfl (by kernel_rfl) (by kernel_rfl) (by kernel_rfl) (fun _ _ _ h => h) (Or.inl ⟨by rfl, ?_⟩) (by assumption) ?_
                  rotate_left
                  · intro w hSw; (try dsimp only at hSw); go_simp; (try with_reducible rfl)
                  simp only [Act.put, List.setIfInBounds_toArray, List.set_cons_zero, List.set_cons_succ]
                  refine wpAnyH_take (i := 11) (oi := { dst := some 61, op := _, type := _, pos := _, after := _, guard := _ }) (v := ?_) rfl (by kernel_rfl) (by kernel_rfl) (by kernel_rfl) (fun _ _ _ h => h) (Or.inl ⟨by rfl, ?_⟩) (by assumption) ?_
                  rotate_left
                  · intro w hSw; (try dsimp only at hSw); go_simp; (try with_reducible rfl)
                  simp only [Act.put, List.setIfInBounds_toArray, List.set_cons_zero, List.set_cons_succ]
                  refine wpAnyH_take (i := 12) (oi := { dst := some 62, op := _, type := _, pos := _, after := _, guard := _ }) (v := ?_) rfl (by kernel_rfl) (by kernel_rfl) (by kernel_rfl) (fun _ _ _ h => h) (Or.inl ⟨by rfl, ?_⟩) (by assumption) ?_
                  rotate_left
                  · intro w hSw; (try dsimp only at hSw); go_simp; (try with_reducible rfl)
                  simp only [Act.put, List.setIfInBounds_toArray, List.set_cons_zero, List.set_cons_succ]
                  refine wpAnyH_take (i := 13) (oi := { dst := some 63, op := _, type := _, pos := _, after := _, guard := _ }) (v := ?_) rfl (by kernel_rfl) (by kernel_rfl) (by kernel_rfl) (fun _ _ _ h => h) (Or.inl ⟨by rfl, ?_⟩) (by assumption) ?_
                  rotate_left
                  · intro w hSw; (try dsimp only at hSw); go_simp; (try with_reducible rfl)
                  simp only [Act.put, List.setIfInBounds_toArray, List.set_cons_zero, List.set_cons_succ]
                  refine wpAnyH_take (i := 14) (oi := { dst := some 64, op := _, type := _, pos := _, after := _, guard := _ }) (v := ?_) rfl (by kernel_rfl) (by kernel_rfl) (by kernel_rfl) (fun _ _ _ h => h) (Or.inl ⟨by rfl, ?_⟩) (by assumption) ?_
                  rotate_left
                  · intro w hSw; (try dsimp only at hSw); go_simp; (try with_reducible rfl)
                  simp only [Act.put, List.setIfInBounds_toArray, List.set_cons_zero, List.set_cons_succ]
                  refine wpAnyH_take (i := 15) (oi := { dst := some 65, op := _, type := _, pos := _, after := _, guard := _ }) (v := ?_) rfl (by kernel_rfl) (by kernel_rfl) (by kernel_rfl) (fun _ _ _ h => h) (Or.inl ⟨by rfl, ?_⟩) (by assumption) ?_
                  rotate_left
                  · intro w hSw; (try dsimp only at hSw); go_simp; (try with_reducible rfl)
                  simp only [Act.put, List.setIfInBounds_toArray, List.set_cons_zero, List.set_cons_succ]
                  refine wpAnyH_take (i := 16) (oi := { dst := some 66, op := _, type := _, pos := _, after := _, guard := _ }) (v := ?_) rfl (by kernel_rfl) (by kernel_rfl) (by kernel_rfl) (fun _ _ _ h => h) (Or.inl ⟨by rfl, ?_⟩) (by assumption) ?_
                  rotate_left
                  · intro w hSw; (try dsimp only at hSw); go_simp; (try with_reducible rfl)
                  simp only [Act.put, List.setIfInBounds_toArray, List.set_cons_zero, List.set_cons_succ]
                  refine wpAnyH_take (i := 17) (oi := { dst := some 67, op := _, type := _, pos := _, after := _, guard := _ }) (v := ?_) rfl (by kernel_rfl) (by kernel_rfl) (by kernel_rfl) (fun _ _ _ h => h) (Or.inl ⟨by rfl, ?_⟩) (by assumption) ?_
                  rotate_left
                  · intro w hSw; (try dsimp only at hSw); go_simp; (try with_reducible rfl)
                  simp only [Act.put, List.setIfInBounds_toArray, List.set_cons_zero, List.set_cons_succ]
                  refine wpAnyH_take (i := 18) (oi := { dst := some 68, op := _, type := _, pos := _, after := _, guard := _ }) (v := ?_) rfl (by kernel_rfl) (by kernel_rfl) (by kernel_rfl) (fun _ _ _ h => h) (Or.inl ⟨by rfl, ?_⟩) (by assumption) ?_
                  rotate_left
                  · intro w hSw; (try dsimp only at hSw); go_simp; (try with_reducible rfl)
                  simp only [Act.put, List.setIfInBounds_toArray, List.set_cons_zero, List.set_cons_succ]
                  refine wpAnyH_take (i := 19) (oi := { dst := some 69, op := _, type := _, pos := _, after := _, guard := _ }) (v := ?_) rfl (by kernel_rfl) (by kernel_rfl) (by kernel_rfl) (fun _ _ _ h => h) (Or.inl ⟨by rfl, ?_⟩) (by assumption) ?_
                  rotate_left
                  · intro w hSw; (try dsimp only at hSw); go_simp; (try with_reducible rfl)
                  simp only [Act.put, List.setIfInBounds_toArray, List.set_cons_zero, List.set_cons_succ]
                  refine wpAnyH_ready (rs := [20]) (by kernel_rfl) (by simp) ?_
                  refine AllReadyH.cons (o := { dst := some 70, op := _, type := _, pos := _, after := _, guard := _ }) rfl (fun KK hKK => ?_) AllReadyH.nil
                  go_simp
                  go_at_call 25
                  refine (BE.out _ (by assumption)).mono ?_
                  rintro r u9 ⟨rfl, g9⟩
                  have WK9 : Hid (W1.grownBy u9 none) := Lib.hid (gb_trans (by refine Hid.out ?_; assumption) g9.out); have K9 : Hid (u3.grownBy u9 none) := Lib.hid (gb_trans (by refine Hid.out ?_; assumption) g9.out); have xs9 := K9.out.cell cs (by simp); have x09 := K9.out.cell d0 (by simp); have x19 := K9.out.cell d1 (by simp); have x29 := K9.out.cell d2 (by simp); have x39 := K9.out.cell d3 (by simp); have x49 := K9.out.cell d4 (by simp); have x59 := K9.out.cell d5 (by simp); have x69 := K9.out.cell d6 (by simp); have x79 := K9.out.cell d7 (by simp); have x89 := K9.out.cell d8 (by simp); clear WK8 K8 xs8 x08 x18 x28 x38 x48 x58 x68 x78 x88
                  dsimp only
                  refine hKK.out _ _ ⟨WK9, K9, xs9, x09, x19, x29, x39, x49, x59, x69, x79, x89⟩ (fun hHeld => ?_)
                  clear hKK KK
                  try simp only [Act.put, List.setIfInBounds_toArray, List.set_cons_zero, List.set_cons_succ]
                  refine wpAnyH_take (i := 21) (oi := { dst := some 71, op := _, type := _, pos := _, after := _, guard := _ }) (v := ?_) rfl (by kernel_rfl) (by kernel_rfl) (by kernel_rfl) (fun _ _ _ h => h) (Or.inl ⟨by rfl, ?_⟩) (by assumption) ?_
                  rotate_left
                  · intro w hSw; (try dsimp only at hSw); go_simp; (try with_reducible rfl)
                  simp only [Act.put, List.setIfInBounds_toArray, List.set_cons_zero, List.set_cons_succ]
                  refine wpAnyH_take (i := 22) (oi := { dst := some 72, op := _, type := _, pos := _, after := _, guard := _ }) (v := ?_) rfl (by kernel_rfl) (by kernel_rfl) (by kernel_rfl) (fun _ _ _ h => h) (Or.inl ⟨by rfl, ?_⟩) (by assumption) ?_
                  rotate_left
                  · intro w hSw; (try dsimp only at hSw); go_simp; (try with_reducible rfl)
                  simp only [Act.put, List.setIfInBounds_toArray, List.set_cons_zero, List.set_cons_succ]
                  refine wpAnyH_take (i := 23) (oi := { dst := some 73, op := _, type := _, pos := _, after := _, guard := _ }) (v := ?_) rfl (by kernel_rfl) (by kernel_rfl) (by kernel_rfl) (fun _ _ _ h => h) (Or.inl ⟨by rfl, ?_⟩) (by assumption) ?_
                  rotate_left
                  · intro w hSw; (try dsimp only at hSw); go_simp; (try with_reducible rfl)
                  simp only [Act.put, List.setIfInBounds_toArray, List.set_cons_zero, List.set_cons_succ]
                  refine wpAnyH_done (by kernel_rfl) ?_ _
                  refine NoPanic.normal ?_
                  go_wp2
                  go_roundw
                  case rel => exact ⟨k, q, by omega, by omega, by go_num, rfl, HQ, WK9⟩
                  case measure => simp [intOf]; (try omega)
          · have hml : m = lo := by omega
            have HML := Lib.hid hml
            have hno : ¬ lz ≤ (m : Int) - 1 := by have := HLZ.out; have := HML.out; omega
            have HFI := Lib.hid (HSO.out q (by rw [← hml]; exact HI.out))
            clear hml
            have hq0 : q = -1 ∨ 0 ≤ q := by rcases HI.out with ⟨h, _⟩ | ⟨p, h, _⟩ <;> omega
            have HQ0 := Lib.hid hq0
            have hq6 : q ≤ 1000000 := by have := isp_le HI.out; omega
            clear hm1 hm2 hgo hlh hhM2 heo6 b6
            have hmm : (m : Int) - 1 = -1 ∨ ∃ k : Nat, (m : Int) - 1 = (k : Int) := by
              by_cases h : m = 0
              · left; omega
              · right; exact ⟨m - 1, by omega⟩
            obtain ⟨mz, hmz⟩ : ∃ q : Int, q = (m : Int) - 1 := ⟨_, rfl⟩
            rw [← hmz] at hmm hno ⊢
            clear hmz HML
            have hnd : decide (lz ≤ mz) = false := by simp; omega
            clear hno
            rcases hmm with rfl | ⟨k, rfl⟩
            all_goals
              clear hq0 y4
              have y4 := GI.out.cell d4 (by simp)
              by_cases hq : q < 0
              · have hq1 : q = -1 := by have := HQ0.out; omega
                subst hq1
                clear hq hq6 HQ0
                go_wp2_with (first | (go_at_call 25; refine (BB.out _ (by refine Hid.out ?_; assumption)).mono ?_; rintro r u6 ⟨rfl, g6⟩) | go_in)
                go_ret2
                exact ⟨f, HF, gb_trans G3.out (gb_trans GI.out g6.out), .inl ⟨i, oa, oc, rfl, HIT.out, HFI.out, HB.out⟩⟩
              · have HFQ := Lib.hid (show f i ≠ -1 by have := HFI.out; have := HQ0.out; omega)
                have hqd : decide (q < 0) = false := by simp; omega
                clear HQ0 hq
                go_wp2_with (first | (go_at_call 25; refine (BB.out _ (by refine Hid.out ?_; assumption)).mono ?_; rintro r u6 ⟨rfl, g6⟩; have WG := Lib.hid (gb_trans GW.out g6.out); have RO6 := Lib.hid (ownsRow_keep RO.out (fun k e => WG.out.block k (RO.out.lt k e).2 (by simp)))) | (at_builtin; go_loud (refine wpList_append_at _ rfl (.tmp 78) (.tmp 80) 25 rfl u3.heap.size 3 i0 (.int .i64 0) 1 8 Try.underlying25 hi9.out hz0.out hz1.out hz2.out rfl (by decide) (.slice oa i oc) i ((List.range i).map fun j => .int .i64 (f j)) rfl (RO6.out.alloc _) ⟨u6.heap.size, 0, none⟩ 1 1 [.int .i64 q] rfl rfl (new_cells _ _ _) (by intro u hu; simp at hu; subst hu; rfl) (by unfold maxLen; omega) (by omega) (by have := (gb_trans G.out WG.out).size; simp; omega) (by decide) ?_); intro g' c' w1 ho1 hg1 hv1; have HO := Lib.hid ho1; have HG := Lib.hid hg1; clear ho1 hg1 hv1) | go_in)
                go_roundw
                case rel => exact ⟨i + 1, _, _, by omega, by go_num, rfl, by have := HO.out; rw [← HFI.out] at this; rw [List.range_succ, List.map_append]; exact this, fun j hj => by by_cases hji : j = i; (· rw [hji]; exact HFQ.out); (· exact HB.out j (by omega)), gb_overO (gb_trans (gb_trans G.out WG.out) (World.grownBy_alloc _ _ none)) HG.out (by intro k e; exact (RO6.out.lt k e).1)⟩
                case measure => simp [intOf]; (try omega)
      · rw [if_neg h0] at hendp
        subst hendp
        go_wp2_with (first | (go_at_call 25; refine (BE.out _ (by refine Hid.out ?_; assumption)).mono ?_; rintro r u5 ⟨rfl, g5⟩) | go_in)
        have GI0 := g5
        go_loopw [11, 12] (fun pv kv wq => ∃ (m : Nat) (q : Int), lo ≤ m ∧ m ≤ hi0 + 1 ∧ kv = .int .i64 ((m : Int) - 1) ∧ pv = .int .i64 q ∧ Hid (IsP (docF e n _ (fun k => stAt z (cacs e _) k) ⟨xth, xtx, xat, xst, xb, _, xre, xco, xac⟩) m hi0 q) ∧ Hid (W1.grownBy wq none)) (fun _ kv _ => (intOf kv + 1).toNat)
        case atStart => exact ⟨hi0 + 1, -1, by omega, by omega, by show _ = _; congr 1; have := HHZ.out; omega, rfl, IsP.none (by omega), GI0⟩
        case round =>
          obtain ⟨m, q, hm1, hm2, rfl, rfl, HI, GW⟩ := hrel
          have GI := Lib.hid (gb_trans G.out GW.out)
          have y4 := GI.out.cell d4 (by simp)
          by_cases hgo : lo < m
          · obtain ⟨k, rfl⟩ : ∃ k, m = k + 1 := ⟨m - 1, by omega⟩
            have hkk : (((k + 1 : Nat) : Int) - 1) = (k : Int) := by omega
            rw [hkk]
            clear hkk
            have hge : lz ≤ (k : Int) := by have := HLZ.out; omega
            have hkM : k < M := by omega
            have hkM' : (k : Int) < (M : Int) := by omega
            have hk6 : (k : Int) < 1000000 := by omega
            obtain ⟨sb, so, ai, ci, rfl, hsb, cs, NK0⟩ := SA.out.at hkM
            have NK := Lib.hid NK0
            clear NK0 y4
            have y4 := GI.out.cell d4 (by simp)
            go_upto_region 16 with (first | (go_at_call 25; refine (BB.out _ (by refine Hid.out ?_; assumption)).mono ?_; rintro r u6 ⟨rfl, g6⟩) | go_in)
            have G6 := Lib.hid (gb_trans GI.out g6.out)
            have K0 : Hid (u3.grownBy u6.drew none) := Lib.hid (gb_drew G6.out)
            have WK0 : Hid (W1.grownBy u6.drew none) := Lib.hid (gb_drew (gb_trans GW.out g6.out))
            have z0 := G6.out.cell d0 (by simp)
            have z1 := G6.out.cell d1 (by simp)
            have z2 := G6.out.cell d2 (by simp)
            have z3 := G6.out.cell d3 (by simp)
            have z4 := G6.out.cell d4 (by simp)
            have z5 := G6.out.cell d5 (by simp)
            have z6 := G6.out.cell d6 (by simp)
            have z7 := G6.out.cell d7 (by simp)
            have z8 := G6.out.cell d8 (by simp)
            have zs := G6.out.cell cs (by simp)
            cases hft : fits n (stAt z (cacs e _) k) xac with
            | false =>
              have FT := Lib.hid hft
              have HQ := Lib.hid (show IsP _ k hi0 q by have := IsP.dn HI.out (show k ≤ hi0 by omega); rw [HDF.out, hft, Bool.false_and, if_neg (by simp)] at this; exact this)
              clear hft HI
              cases xco with
              | false =>
                refine wp_region_noPanic ?_
                refine wp_region_held_drew (S := (fun w' => Hid (W1.grownBy w' none) ∧ Hid (u3.grownBy w' none) ∧ w'.cell? ⟨sb, so + k, none⟩ = some (.slice ai n ci) ∧ w'.cell? ⟨tb, off + i * 9, none⟩ = some (.int .i64 xth) ∧ w'.cell? ⟨tb, off + i * 9 + 1, none⟩ = some (.int .i64 xtx) ∧ w'.cell? ⟨tb, off + i * 9 + 2, none⟩ = some (.int .i64 xat) ∧ w'.cell? ⟨tb, off + i * 9 + 3, none⟩ = some (.int .i64 xst) ∧ w'.cell? ⟨tb, off + i * 9 + 4, none⟩ = some (.int .i64 xb) ∧ w'.cell? ⟨tb, off + i * 9 + 5, none⟩ = some (.int .i64 (eo : Int)) ∧ w'.cell? ⟨tb, off + i * 9 + 6, none⟩ = some (.int .i64 xre) ∧ w'.cell? ⟨tb, off + i * 9 + 7, none⟩ = some (.bool false) ∧ w'.cell? ⟨tb, off + i * 9 + 8, none⟩ = some (.slice va xac.length vc))) (by kernel_rfl) ?_ (fun hHeld => ?_)
                · go_keep
                refine wpAnyH_take (i := 0) (oi := { dst := some 50, op := _, type := _, pos := _, after := _, guard := _ }) (v := ?_) rfl (by kernel_rfl) (by kernel_rfl) (by kernel_rfl) (fun _ _ _ h => h) (Or.inl ⟨by rfl, ?_⟩) (by assumption) ?_
                rotate_left
                · intro w hSw; (try dsimp only at hSw); go_simp; (try with_reducible rfl)
                simp only [Act.put, List.setIfInBounds_toArray, List.set_cons_zero, List.set_cons_succ]
                refine wpAnyH_take (i := 1) (oi := { dst := some 51, op := _, type := _, pos := _, after := _, guard := _ }) (v := ?_) rfl (by kernel_rfl) (by kernel_rfl) (by kernel_rfl) (fun _ _ _ h => h) (Or.inl ⟨by rfl, ?_⟩) (by assumption) ?_
                rotate_left
                · intro w hSw; (try dsimp only at hSw); go_simp; (try with_reducible rfl)
                simp only [Act.put, List.setIfInBounds_toArray, List.set_cons_zero, List.set_cons_succ]
                refine wpAnyH_take (i := 2) (oi := { dst := some 52, op := _, type := _, pos := _, after := _, guard := _ }) (v := ?_) rfl (by kernel_rfl) (by kernel_rfl) (by kernel_rfl) (fun _ _ _ h => h) (Or.inl ⟨by rfl, ?_⟩) (by assumption) ?_
                rotate_left
                · intro w hSw; (try dsimp only at hSw); go_simp; (try with_reducible rfl)
                simp only [Act.put, List.setIfInBounds_toArray, List.set_cons_zero, List.set_cons_succ]
                refine wpAnyH_take (i := 3) (oi := { dst := some 53, op := _, type := _, pos := _, after := _, guard := _ }) (v := ?_) rfl (by kernel_rfl) (by kernel_rfl) (by kernel_rfl) (fun _ _ _ h => h) (Or.inl ⟨by rfl, ?_⟩) (by assumption) ?_
                rotate_left
                · intro w hSw; (try dsimp only at hSw); go_simp; (try with_reducible rfl)
                simp only [Act.put, List.setIfInBounds_toArray, List.set_cons_zero, List.set_cons_succ]
                refine wpAnyH_take (i := 4) (oi := { dst := some 54, op := _, type := _, pos := _, after := _, guard := _ }) (v := ?_) rfl (by kernel_rfl) (by kernel_rfl) (by kernel_rfl) (fun _ _ _ h => h) (Or.inl ⟨by rfl, ?_⟩) (by assumption) ?_
                rotate_left
                · intro w hSw; (try dsimp only at hSw); go_simp; (try with_reducible rfl)
                simp only [Act.put, List.setIfInBounds_toArray, List.set_cons_zero, List.set_cons_succ]
                refine wpAnyH_take (i := 5) (oi := { dst := some 55, op := _, type := _, pos := _, after := _, guard := _ }) (v := ?_) rfl (by kernel_rfl) (by kernel_rfl) (by kernel_rfl) (fun _ _ _ h => h) (Or.inl ⟨by rfl, ?_⟩) (by assumption) ?_
                rotate_left
                · intro w hSw; (try dsimp only at hSw); go_simp; (try with_reducible rfl)
                simp only [Act.put, List.setIfInBounds_toArray, List.set_cons_zero, List.set_cons_succ]
                refine wpAnyH_take (i := 6) (oi := { dst := some 56, op := _, type := _, pos := _, after := _, guard := _ }) (v := ?_) rfl (by kernel_rfl) (by kernel_rfl) (by kernel_rfl) (fun _ _ _ h => h) (Or.inl ⟨by rfl, ?_⟩) (by assumption) ?_
                rotate_left
                · intro w hSw; (try dsimp only at hSw); go_simp; (try with_reducible rfl)
                simp only [Act.put, List.setIfInBounds_toArray, List.set_cons_zero, List.set_cons_succ]
                refine wpAnyH_take (i := 7) (oi := { dst := some 57, op := _, type := _, pos := _, after := _, guard := _ }) (v := ?_) rfl (by kernel_rfl) (by kernel_rfl) (by kernel_rfl) (fun _ _ _ h => h) (Or.inl ⟨by rfl, ?_⟩) (by assumption) ?_
                rotate_left
                · intro w hSw; (try dsimp only at hSw); go_simp; (try with_reducible rfl)
                simp only [Act.put, List.setIfInBounds_toArray, List.set_cons_zero, List.set_cons_succ]
                refine wpAnyH_ready (rs := [8]) (by kernel_rfl) (by simp) ?_
                refine AllReadyH.cons (o := { dst := some 58, op := _, type := _, pos := _, after := _, guard := _ }) rfl (fun KK hKK => ?_) AllReadyH.nil
                go_simp
                go_at_call 26
                refine (reffits_any ai n ci (stAt z (cacs e _) k) ⟨xth, xtx, xat, xst, xb, _, xre, false, xac⟩ va vc _ (NK.out.grown (by refine Hid.out ?_; assumption)) (HLA.out.grown (by refine Hid.out ?_; assumption)) (by have := HN.out; omega) hac6).mono ?_
                dsimp only
                rw [FT.out]
                rintro r u8 ⟨rfl, g8⟩
                have WK8 : Hid (W1.grownBy u8 none) := Lib.hid (gb_trans (by refine Hid.out ?_; assumption) g8.out); have K8 : Hid (u3.grownBy u8 none) := Lib.hid (gb_trans (by refine Hid.out ?_; assumption) g8.out); have xs8 := K8.out.cell cs (by simp); have x08 := K8.out.cell d0 (by simp); have x18 := K8.out.cell d1 (by simp); have x28 := K8.out.cell d2 (by simp); have x38 := K8.out.cell d3 (by simp); have x48 := K8.out.cell d4 (by simp); have x58 := K8.out.cell d5 (by simp); have x68 := K8.out.cell d6 (by simp); have x78 := K8.out.cell d7 (by simp); have x88 := K8.out.cell d8 (by simp)
                dsimp only
                refine hKK.out _ _ ⟨WK8, K8, xs8, x08, x18, x28, x38, x48, x58, x68, x78, x88⟩ (fun hHeld => ?_)
                clear hKK KK
                try simp only [Act.put, List.setIfInBounds_toArray, List.set_cons_zero, List.set_cons_succ]
                refine wpAnyH_take (i := 9) (oi := { dst := some 59, op := _, type := _, pos := _, after := _, guard := _ }) (v := ?_) rfl (by kernel_rfl) (by kernel_rfl) (by kernel_rfl) (fun _ _ _ h => h) (Or.inl ⟨by rfl, ?_⟩) (by assumption) ?_
                rotate_left
                · intro w hSw; (try dsimp only at hSw); go_simp; (try with_reducible rfl)
                simp only [Act.put, List.setIfInBounds_toArray, List.set_cons_zero, List.set_cons_succ]
                refine wpAnyH_take (i := 10) (oi := { dst := some 60, op := _, type := _, pos := _, after := _, guard := _ }) rfl (by kernel_rfl) (by kernel_rfl) (by kernel_rfl) (fun _ _ _ h => h) (Or.inr ⟨by kernel_rfl, rfl⟩) (by assumption) ?_
                simp only [Act.put, List.setIfInBounds_toArray, List.set_cons_zero, List.set_cons_succ]
                refine wpAnyH_take (i := 11) (oi := { dst := some 61, op := _, type := _, pos := _, after := _, guard := _ }) rfl (by kernel_rfl) (by kernel_rfl) (by kernel_rfl) (fun _ _ _ h => h) (Or.inr ⟨by kernel_rfl, rfl⟩) (by assumption) ?_
                simp only [Act.put, List.setIfInBounds_toArray, List.set_cons_zero, List.set_cons_succ]
                refine wpAnyH_take (i := 12) (oi := { dst := some 62, op := _, type := _, pos := _, after := _, guard := _ }) rfl (by kernel_rfl) (by kernel_rfl) (by kernel_rfl) (fun _ _ _ h => h) (Or.inr ⟨by kernel_rfl, rfl⟩) (by assumption) ?_
                simp only [Act.put, List.setIfInBounds_toArray, List.set_cons_zero, List.set_cons_succ]
                refine wpAnyH_take (i := 13) (oi := { dst := some 63, op := _, type := _, pos := _, after := _, guard := _ }) rfl (by kernel_rfl) (by kernel_rfl) (by kernel_rfl) (fun _ _ _ h => h) (Or.inr ⟨by kernel_rfl, rfl⟩) (by assumption) ?_
                simp only [Act.put, List.setIfInBounds_toArray, List.set_cons_zero, List.set_cons_succ]
                refine wpAnyH_take (i := 14) (oi := { dst := some 64, op := _, type := _, pos := _, after := _, guard := _ }) rfl (by kernel_rfl) (by kernel_rfl) (by kernel_rfl) (fun _ _ _ h => h) (Or.inr ⟨by kernel_rfl, rfl⟩) (by assumption) ?_
                simp only [Act.put, List.setIfInBounds_toArray, List.set_cons_zero, List.set_cons_succ]
                refine wpAnyH_take (i := 15) (oi := { dst := some 65, op := _, type := _, pos := _, after := _, guard := _ }) rfl (by kernel_rfl) (by kernel_rfl) (by kernel_rfl) (fun _ _ _ h => h) (Or.inr ⟨by kernel_rfl, rfl⟩) (by assumption) ?_
                simp only [Act.put, List.setIfInBounds_toArray, List.set_cons_zero, List.set_cons_succ]
                refine wpAnyH_take (i := 16) (oi := { dst := some 66, op := _, type := _, pos := _, after := _, guard := _ }) rfl (by kernel_rfl) (by kernel_rfl) (by kernel_rfl) (fun _ _ _ h => h) (Or.inr ⟨by kernel_rfl, rfl⟩) (by assumption) ?_
                simp only [Act.put, List.setIfInBounds_toArray, List.set_cons_zero, List.set_cons_succ]
                refine wpAnyH_take (i := 17) (oi := { dst := some 67, op := _, type := _, pos := _, after := _, guard := _ }) rfl (by kernel_rfl) (by kernel_rfl) (by kernel_rfl) (fun _ _ _ h => h) (Or.inr ⟨by kernel_rfl, rfl⟩) (by assumption) ?_
                simp only [Act.put, List.setIfInBounds_toArray, List.set_cons_zero, List.set_cons_succ]
                refine wpAnyH_take (i := 18) (oi := { dst := some 68, op := _, type := _, pos := _, after := _, guard := _ }) rfl (by kernel_rfl) (by kernel_rfl) (by kernel_rfl) (fun _ _ _ h => h) (Or.inr ⟨by kernel_rfl, rfl⟩) (by assumption) ?_
                simp only [Act.put, List.setIfInBounds_toArray, List.set_cons_zero, List.set_cons_succ]
                refine wpAnyH_take (i := 19) (oi := { dst := some 69, op := _, type := _, pos := _, after := _, guard := _ }) rfl (by kernel_rfl) (by kernel_rfl) (by kernel_rfl) (fun _ _ _ h => h) (Or.inr ⟨by kernel_rfl, rfl⟩) (by assumption) ?_
                simp only [Act.put, List.setIfInBounds_toArray, List.set_cons_zero, List.set_cons_succ]
                refine wpAnyH_take (i := 20) (oi := { dst := some 70, op := _, type := _, pos := _, after := _, guard := _ }) rfl (by kernel_rfl) (by kernel_rfl) (by kernel_rfl) (fun _ _ _ h => h) (Or.inr ⟨by kernel_rfl, rfl⟩) (by assumption) ?_
                simp only [Act.put, List.setIfInBounds_toArray, List.set_cons_zero, List.set_cons_succ]
                refine wpAnyH_take (i := 21) (oi := { dst := some 71, op := _, type := _, pos := _, after := _, guard := _ }) rfl (by kernel_rfl) (by kernel_rfl) (by kernel_rfl) (fun _ _ _ h => h) (Or.inr ⟨by kernel_rfl, rfl⟩) (by assumption) ?_
                simp only [Act.put, List.setIfInBounds_toArray, List.set_cons_zero, List.set_cons_succ]
                refine wpAnyH_take (i := 22) (oi := { dst := some 72, op := _, type := _, pos := _, after := _, guard := _ }) rfl (by kernel_rfl) (by kernel_rfl) (by kernel_rfl) (fun _ _ _ h => h) (Or.inr ⟨by kernel_rfl, rfl⟩) (by assumption) ?_
                simp only [Act.put, List.setIfInBounds_toArray, List.set_cons_zero, List.set_cons_succ]
                refine wpAnyH_take (i := 23) (oi := { dst := some 73, op := _, type := _, pos := _, after := _, guard := _ }) (v := ?_) rfl (by kernel_rfl) (by kernel_rfl) (by kernel_rfl) (fun _ _ _ h => h) (Or.inl ⟨by rfl, ?_⟩) (by assumption) ?_
                rotate_left
                · intro w hSw; (try dsimp only at hSw); go_simp; (try with_reducible rfl)
                simp only [Act.put, List.setIfInBounds_toArray, List.set_cons_zero, List.set_cons_succ]
                refine wpAnyH_done (by kernel_rfl) ?_ _
                refine NoPanic.normal ?_
                go_wp2
                go_roundw
                case rel => exact ⟨k, q, by omega, by omega, by go_num, rfl, HQ, WK8⟩
                case measure => simp [intOf]; (try omega)
              | true =>
                refine wp_region_noPanic ?_
                refine wp_region_held_drew (S := (fun w' => Hid (W1.grownBy w' none) ∧ Hid (u3.grownBy w' none) ∧ w'.cell? ⟨sb, so + k, none⟩ = some (.slice ai n ci) ∧ w'.cell? ⟨tb, off + i * 9, none⟩ = some (.int .i64 xth) ∧ w'.cell? ⟨tb, off + i * 9 + 1, none⟩ = some (.int .i64 xtx) ∧ w'.cell? ⟨tb, off + i * 9 + 2, none⟩ = some (.int .i64 xat) ∧ w'.cell? ⟨tb, off + i * 9 + 3, none⟩ = some (.int .i64 xst) ∧ w'.cell? ⟨tb, off + i * 9 + 4, none⟩ = some (.int .i64 xb) ∧ w'.cell? ⟨tb, off + i * 9 + 5, none⟩ = some (.int .i64 (eo : Int)) ∧ w'.cell? ⟨tb, off + i * 9 + 6, none⟩ = some (.int .i64 xre) ∧ w'.cell? ⟨tb, off + i * 9 + 7, none⟩ = some (.bool true) ∧ w'.cell? ⟨tb, off + i * 9 + 8, none⟩ = some (.slice va xac.length vc))) (by kernel_rfl) ?_ (fun hHeld => ?_)
                · go_keep
                refine wpAnyH_take (i := 0) (oi := { dst := some 50, op := _, type := _, pos := _, after := _, guard := _ }) (v := ?_) rfl (by kernel_rfl) (by kernel_rfl) (by kernel_rfl) (fun _ _ _ h => h) (Or.inl ⟨by rfl, ?_⟩) (by assumption) ?_
                rotate_left
                · intro w hSw; (try dsimp only at hSw); go_simp; (try with_reducible rfl)
                simp only [Act.put, List.setIfInBounds_toArray, List.set_cons_zero, List.set_cons_succ]
                refine wpAnyH_take (i := 1) (oi := { dst := some 51, op := _, type := _, pos := _, after := _, guard := _ }) (v := ?_) rfl (by kernel_rfl) (by kernel_rfl) (by kernel_rfl) (fun _ _ _ h => h) (Or.inl ⟨by rfl, ?_⟩) (by assumption) ?_
                rotate_left
                · intro w hSw; (try dsimp only at hSw); go_simp; (try with_reducible rfl)
                simp only [Act.put, List.setIfInBounds_toArray, List.set_cons_zero, List.set_cons_succ]
                refine wpAnyH_take (i := 2) (oi := { dst := some 52, op := _, type := _, pos := _, after := _, guard := _ }) (v := ?_) rfl (by kernel_rfl) (by kernel_rfl) (by kernel_rfl) (fun _ _ _ h => h) (Or.inl ⟨by rfl, ?_⟩) (by assumption) ?_
                rotate_left
                · intro w hSw; (try dsimp only at hSw); go_simp; (try with_reducible rfl)
                simp only [Act.put, List.setIfInBounds_toArray, List.set_cons_zero, List.set_cons_succ]
                refine wpAnyH_take (i := 3) (oi := { dst := some 53, op := _, type := _, pos := _, after := _, guard := _ }) (v := ?_) rfl (by kernel_rfl) (by kernel_rfl) (by kernel_rfl) (fun _ _ _ h => h) (Or.inl ⟨by rfl, ?_⟩) (by assumption) ?_
                rotate_left
                · intro w hSw; (try dsimp only at hSw); go_simp; (try with_reducible rfl)
                simp only [Act.put, List.setIfInBounds_toArray, List.set_cons_zero, List.set_cons_succ]
                refine wpAnyH_take (i := 4) (oi := { dst := some 54, op := _, type := _, pos := _, after := _, guard := _ }) (v := ?_) rfl (by kernel_rfl) (by kernel_rfl) (by kernel_rfl) (fun _ _ _ h => h) (Or.inl ⟨by rfl, ?_⟩) (by assumption) ?_
                rotate_left
                · intro w hSw; (try dsimp only at hSw); go_simp; (try with_reducible rfl)
                simp only [Act.put, List.setIfInBounds_toArray, List.set_cons_zero, List.set_cons_succ]
                refine wpAnyH_take (i := 5) (oi := { dst := some 55, op := _, type := _, pos := _, after := _, guard := _ }) (v := ?_) rfl (by kernel_rfl) (by kernel_rfl) (by kernel_rfl) (fun _ _ _ h => h) (Or.inl ⟨by rfl, ?_⟩) (by assumption) ?_
                rotate_left
                · intro w hSw; (try dsimp only at hSw); go_simp; (try with_reducible rfl)
                simp only [Act.put, List.setIfInBounds_toArray, List.set_cons_zero, List.set_cons_succ]
                refine wpAnyH_take (i := 6) (oi := { dst := some 56, op := _, type := _, pos := _, after := _, guard := _ }) (v := ?_) rfl (by kernel_rfl) (by kernel_rfl) (by kernel_rfl) (fun _ _ _ h => h) (Or.inl ⟨by rfl, ?_⟩) (by assumption) ?_
                rotate_left
                · intro w hSw; (try dsimp only at hSw); go_simp; (try with_reducible rfl)
                simp only [Act.put, List.setIfInBounds_toArray, List.set_cons_zero, List.set_cons_succ]
                refine wpAnyH_take (i := 7) (oi := { dst := some 57, op := _, type := _, pos := _, after := _, guard := _ }) (v := ?_) rfl (by kernel_rfl) (by kernel_rfl) (by kernel_rfl) (fun _ _ _ h => h) (Or.inl ⟨by rfl, ?_⟩) (by assumption) ?_
                rotate_left
                · intro w hSw; (try dsimp only at hSw); go_simp; (try with_reducible rfl)
                simp only [Act.put, List.setIfInBounds_toArray, List.set_cons_zero, List.set_cons_succ]
                refine wpAnyH_ready (rs := [8]) (by kernel_rfl) (by simp) ?_
                refine AllReadyH.cons (o := { dst := some 58, op := _, type := _, pos := _, after := _, guard := _ }) rfl (fun KK hKK => ?_) AllReadyH.nil
                go_simp
                go_at_call 26
                refine (reffits_any ai n ci (stAt z (cacs e _) k) ⟨xth, xtx, xat, xst, xb, _, xre, true, xac⟩ va vc _ (NK.out.grown (by refine Hid.out ?_; assumption)) (HLA.out.grown (by refine Hid.out ?_; assumption)) (by have := HN.out; omega) hac6).mono ?_
                dsimp only
                rw [FT.out]
                rintro r u8 ⟨rfl, g8⟩
                have WK8 : Hid (W1.grownBy u8 none) := Lib.hid (gb_trans (by refine Hid.out ?_; assumption) g8.out); have K8 : Hid (u3.grownBy u8 none) := Lib.hid (gb_trans (by refine Hid.out ?_; assumption) g8.out); have xs8 := K8.out.cell cs (by simp); have x08 := K8.out.cell d0 (by simp); have x18 := K8.out.cell d1 (by simp); have x28 := K8.out.cell d2 (by simp); have x38 := K8.out.cell d3 (by simp); have x48 := K8.out.cell d4 (by simp); have x58 := K8.out.cell d5 (by simp); have x68 := K8.out.cell d6 (by simp); have x78 := K8.out.cell d7 (by simp); have x88 := K8.out.cell d8 (by simp)
                dsimp only
                refine hKK.out _ _ ⟨WK8, K8, xs8, x08, x18, x28, x38, x48, x58, x68, x78, x88⟩ (fun hHeld => ?_)
                clear hKK KK
                try simp only [Act.put, List.setIfInBounds_toArray, List.set_cons_zero, List.set_cons_succ]
                refine wpAnyH_take (i := 9) (oi := { dst := some 59, op := _, type := _, pos := _, after := _, guard := _ }) (v := ?_) rfl (by kernel_rfl) (by kernel_rfl) (by kernel_rfl) (fun _ _ _ h => h) (Or.inl ⟨by rfl, ?_⟩) (by assumption) ?_
                rotate_left
                · intro w hSw; (try dsimp only at hSw); go_simp; (try with_reducible rfl)
                simp only [Act.put, List.setIfInBounds_toArray, List.set_cons_zero, List.set_cons_succ]
                refine wpAnyH_take (i := 10) (oi := { dst := some 60, op := _, type := _, pos := _, after := _, guard := _ }) rfl (by kernel_rfl) (by kernel_rfl) (by kernel_rfl) (fun _ _ _ h => h) (Or.inr ⟨by kernel_rfl, rfl⟩) (by assumption) ?_
                simp only [Act.put, List.setIfInBounds_toArray, List.set_cons_zero, List.set_cons_succ]
                refine wpAnyH_take (i := 11) (oi := { dst := some 61, op := _, type := _, pos := _, after := _, guard := _ }) rfl (by kernel_rfl) (by kernel_rfl) (by kernel_rfl) (fun _ _ _ h => h) (Or.inr ⟨by kernel_rfl, rfl⟩) (by assumption) ?_
                simp only [Act.put, List.setIfInBounds_toArray, List.set_cons_zero, List.set_cons_succ]
                refine wpAnyH_take (i := 12) (oi := { dst := some 62, op := _, type := _, pos := _, after := _, guard := _ }) rfl (by kernel_rfl) (by kernel_rfl) (by kernel_rfl) (fun _ _ _ h => h) (Or.inr ⟨by kernel_rfl, rfl⟩) (by assumption) ?_
                simp only [Act.put, List.setIfInBounds_toArray, List.set_cons_zero, List.set_cons_succ]
                refine wpAnyH_take (i := 13) (oi := { dst := some 63, op := _, type := _, pos := _, after := _, guard := _ }) rfl (by kernel_rfl) (by kernel_rfl) (by kernel_rfl) (fun _ _ _ h => h) (Or.inr ⟨by kernel_rfl, rfl⟩) (by assumption) ?_
                simp only [Act.put, List.setIfInBounds_toArray, List.set_cons_zero, List.set_cons_succ]
                refine wpAnyH_take (i := 14) (oi := { dst := some 64, op := _, type := _, pos := _, after := _, guard := _ }) rfl (by kernel_rfl) (by kernel_rfl) (by kernel_rfl) (fun _ _ _ h => h) (Or.inr ⟨by kernel_rfl, rfl⟩) (by assumption) ?_
                simp only [Act.put, List.setIfInBounds_toArray, List.set_cons_zero, List.set_cons_succ]
                refine wpAnyH_take (i := 15) (oi := { dst := some 65, op := _, type := _, pos := _, after := _, guard := _ }) rfl (by kernel_rfl) (by kernel_rfl) (by kernel_rfl) (fun _ _ _ h => h) (Or.inr ⟨by kernel_rfl, rfl⟩) (by assumption) ?_
                simp only [Act.put, List.setIfInBounds_toArray, List.set_cons_zero, List.set_cons_succ]
                refine wpAnyH_take (i := 16) (oi := { dst := some 66, op := _, type := _, pos := _, after := _, guard := _ }) rfl (by kernel_rfl) (by kernel_rfl) (by kernel_rfl) (fun _ _ _ h => h) (Or.inr ⟨by kernel_rfl, rfl⟩) (by assumption) ?_
                simp only [Act.put, List.setIfInBounds_toArray, List.set_cons_zero, List.set_cons_succ]
                refine wpAnyH_take (i := 17) (oi := { dst := some 67, op := _, type := _, pos := _, after := _, guard := _ }) rfl (by kernel_rfl) (by kernel_rfl) (by kernel_rfl) (fun _ _ _ h => h) (Or.inr ⟨by kernel_rfl, rfl⟩) (by assumption) ?_
                simp only [Act.put, List.setIfInBounds_toArray, List.set_cons_zero, List.set_cons_succ]
                refine wpAnyH_take (i := 18) (oi := { dst := some 68, op := _, type := _, pos := _, after := _, guard := _ }) rfl (by kernel_rfl) (by kernel_rfl) (by kernel_rfl) (fun _ _ _ h => h) (Or.inr ⟨by kernel_rfl, rfl⟩) (by assumption) ?_
                simp only [Act.put, List.setIfInBounds_toArray, List.set_cons_zero, List.set_cons_succ]
                refine wpAnyH_take (i := 19) (oi := { dst := some 69, op := _, type := _, pos := _, after := _, guard := _ }) rfl (by kernel_rfl) (by kernel_rfl) (by kernel_rfl) (fun _ _ _ h => h) (Or.inr ⟨by kernel_rfl, rfl⟩) (by assumption) ?_
                simp only [Act.put, List.setIfInBounds_toArray, List.set_cons_zero, List.set_cons_succ]
                refine wpAnyH_take (i := 20) (oi := { dst := some 70, op := _, type := _, pos := _, after := _, guard := _ }) rfl (by kernel_rfl) (by kernel_rfl) (by kernel_rfl) (fun _ _ _ h => h) (Or.inr ⟨by kernel_rfl, rfl⟩) (by assumption) ?_
                simp only [Act.put, List.setIfInBounds_toArray, List.set_cons_zero, List.set_cons_succ]
                refine wpAnyH_take (i := 21) (oi := { dst := some 71, op := _, type := _, pos := _, after := _, guard := _ }) rfl (by kernel_rfl) (by kernel_rfl) (by kernel_rfl) (fun _ _ _ h => h) (Or.inr ⟨by kernel_rfl, rfl⟩) (by assumption) ?_
                simp only [Act.put, List.setIfInBounds_toArray, List.set_cons_zero, List.set_cons_succ]
                refine wpAnyH_take (i := 22) (oi := { dst := some 72, op := _, type := _, pos := _, after := _, guard := _ }) rfl (by kernel_rfl) (by kernel_rfl) (by kernel_rfl) (fun _ _ _ h => h) (Or.inr ⟨by kernel_rfl, rfl⟩) (by assumption) ?_
                simp only [Act.put, List.setIfInBounds_toArray, List.set_cons_zero, List.set_cons_succ]
                refine wpAnyH_take (i := 23) (oi := { dst := some 73, op := _, type := _, pos := _, after := _, guard := _ }) (v := ?_) rfl (by kernel_rfl) (by kernel_rfl) (by kernel_rfl) (fun _ _ _ h => h) (Or.inl ⟨by rfl, ?_⟩) (by assumption) ?_
                rotate_left
                · intro w hSw; (try dsimp only at hSw); go_simp; (try with_reducible rfl)
                simp only [Act.put, List.setIfInBounds_toArray, List.set_cons_zero, List.set_cons_succ]
                refine wpAnyH_done (by kernel_rfl) ?_ _
                refine NoPanic.normal ?_
                go_wp2
                go_roundw
                case rel => exact ⟨k, q, by omega, by omega, by go_num, rfl, HQ, WK8⟩
                case measure => simp [intOf]; (try omega)
            | true =>
              have FT := Lib.hid hft
              cases xco with
              | false =>
                have HQ := Lib.hid (show IsP _ k hi0 (k : Int) by have := IsP.dn HI.out (show k ≤ hi0 by omega); rw [HDF.out, hft, if_pos (by simp)] at this; exact this)
                clear hft HI
                refine wp_region_noPanic ?_
                refine wp_region_held_drew (S := (fun w' => Hid (W1.grownBy w' none) ∧ Hid (u3.grownBy w' none) ∧ w'.cell? ⟨sb, so + k, none⟩ = some (.slice ai n ci) ∧ w'.cell? ⟨tb, off + i * 9, none⟩ = some (.int .i64 xth) ∧ w'.cell? ⟨tb, off + i * 9 + 1, none⟩ = some (.int .i64 xtx) ∧ w'.cell? ⟨tb, off + i * 9 + 2, none⟩ = some (.int .i64 xat) ∧ w'.cell? ⟨tb, off + i * 9 + 3, none⟩ = some (.int .i64 xst) ∧ w'.cell? ⟨tb, off + i * 9 + 4, none⟩ = some (.int .i64 xb) ∧ w'.cell? ⟨tb, off + i * 9 + 5, none⟩ = some (.int .i64 (eo : Int)) ∧ w'.cell? ⟨tb, off + i * 9 + 6, none⟩ = some (.int .i64 xre) ∧ w'.cell? ⟨tb, off + i * 9 + 7, none⟩ = some (.bool false) ∧ w'.cell? ⟨tb, off + i * 9 + 8, none⟩ = some (.slice va xac.length vc))) (by kernel_rfl) ?_ (fun hHeld => ?_)
                · go_keep
                refine wpAnyH_take (i := 0) (oi := { dst := some 50, op := _, type := _, pos := _, after := _, guard := _ }) (v := ?_) rfl (by kernel_rfl) (by kernel_rfl) (by kernel_rfl) (fun _ _ _ h => h) (Or.inl ⟨by rfl, ?_⟩) (by assumption) ?_
                rotate_left
                · intro w hSw; (try dsimp only at hSw); go_simp; (try with_reducible rfl)
                simp only [Act.put, List.setIfInBounds_toArray, List.set_cons_zero, List.set_cons_succ]
                refine wpAnyH_take (i := 1) (oi := { dst := some 51, op := _, type := _, pos := _, after := _, guard := _ }) (v := ?_) rfl (by kernel_rfl) (by kernel_rfl) (by kernel_rfl) (fun _ _ _ h => h) (Or.inl ⟨by rfl, ?_⟩) (by assumption) ?_
                rotate_left
                · intro w hSw; (try dsimp only at hSw); go_simp; (try with_reducible rfl)
                simp only [Act.put, List.setIfInBounds_toArray, List.set_cons_zero, List.set_cons_succ]
                refine wpAnyH_take (i := 2) (oi := { dst := some 52, op := _, type := _, pos := _, after := _, guard := _ }) (v := ?_) rfl (by kernel_rfl) (by kernel_rfl) (by kernel_rfl) (fun _ _ _ h => h) (Or.inl ⟨by rfl, ?_⟩) (by assumption) ?_
                rotate_left
                · intro w hSw; (try dsimp only at hSw); go_simp; (try with_reducible rfl)
                simp only [Act.put, List.setIfInBounds_toArray, List.set_cons_zero, List.set_cons_succ]
                refine wpAnyH_take (i := 3) (oi := { dst := some 53, op := _, type := _, pos := _, after := _, guard := _ }) (v := ?_) rfl (by kernel_rfl) (by kernel_rfl) (by kernel_rfl) (fun _ _ _ h => h) (Or.inl ⟨by rfl, ?_⟩) (by assumption) ?_
                rotate_left
                · intro w hSw; (try dsimp only at hSw); go_simp; (try with_reducible rfl)
                simp only [Act.put, List.setIfInBounds_toArray, List.set_cons_zero, List.set_cons_succ]
                refine wpAnyH_take (i := 4) (oi := { dst := some 54, op := _, type := _, pos := _, after := _, guard := _ }) (v := ?_) rfl (by kernel_rfl) (by kernel_rfl) (by kernel_rfl) (fun _ _ _ h => h) (Or.inl ⟨by rfl, ?_⟩) (by assumption) ?_
                rotate_left
                · intro w hSw; (try dsimp only at hSw); go_simp; (try with_reducible rfl)
                simp only [Act.put, List.setIfInBounds_toArray, List.set_cons_zero, List.set_cons_succ]
                refine wpAnyH_take (i := 5) (oi := { dst := some 55, op := _, type := _, pos := _, after := _, guard := _ }) (v := ?_) rfl (by kernel_rfl) (by kernel_rfl) (by kernel_rfl) (fun _ _ _ h => h) (Or.inl ⟨by rfl, ?_⟩) (by assumption) ?_
                rotate_left
                · intro w hSw; (try dsimp only at hSw); go_simp; (try with_reducible rfl)
                simp only [Act.put, List.setIfInBounds_toArray, List.set_cons_zero, List.set_cons_succ]
                refine wpAnyH_take (i := 6) (oi := { dst := some 56, op := _, type := _, pos := _, after := _, guard := _ }) (v := ?_) rfl (by kernel_rfl) (by kernel_rfl) (by kernel_rfl) (fun _ _ _ h => h) (Or.inl ⟨by rfl, ?_⟩) (by assumption) ?_
                rotate_left
                · intro w hSw; (try dsimp only at hSw); go_simp; (try with_reducible rfl)
                simp only [Act.put, List.setIfInBounds_toArray, List.set_cons_zero, List.set_cons_succ]
                refine wpAnyH_take (i := 7) (oi := { dst := some 57, op := _, type := _, pos := _, after := _, guard := _ }) (v := ?_) rfl (by kernel_rfl) (by kernel_rfl) (by kernel_rfl) (fun _ _ _ h => h) (Or.inl ⟨by rfl, ?_⟩) (by assumption) ?_
                rotate_left
                · intro w hSw; (try dsimp only at hSw); go_simp; (try with_reducible rfl)
                simp only [Act.put, List.setIfInBounds_toArray, List.set_cons_zero, List.set_cons_succ]
                refine wpAnyH_ready (rs := [8]) (by kernel_rfl) (by simp) ?_
                refine AllReadyH.cons (o := { dst := some 58, op := _, type := _, pos := _, after := _, guard := _ }) rfl (fun KK hKK => ?_) AllReadyH.nil
                go_simp
                go_at_call 26
                refine (reffits_any ai n ci (stAt z (cacs e _) k) ⟨xth, xtx, xat, xst, xb, _, xre, false, xac⟩ va vc _ (NK.out.grown (by refine Hid.out ?_; assumption)) (HLA.out.grown (by refine Hid.out ?_; assumption)) (by have := HN.out; omega) hac6).mono ?_
                dsimp only
                rw [FT.out]
                rintro r u8 ⟨rfl, g8⟩
                have WK8 : Hid (W1.grownBy u8 none) := Lib.hid (gb_trans (by refine Hid.out ?_; assumption) g8.out); have K8 : Hid (u3.grownBy u8 none) := Lib.hid (gb_trans (by refine Hid.out ?_; assumption) g8.out); have xs8 := K8.out.cell cs (by simp); have x08 := K8.out.cell d0 (by simp); have x18 := K8.out.cell d1 (by simp); have x28 := K8.out.cell d2 (by simp); have x38 := K8.out.cell d3 (by simp); have x48 := K8.out.cell d4 (by simp); have x58 := K8.out.cell d5 (by simp); have x68 := K8.out.cell d6 (by simp); have x78 := K8.out.cell d7 (by simp); have x88 := K8.out.cell d8 (by simp)
                dsimp only
                refine hKK.out _ _ ⟨WK8, K8, xs8, x08, x18, x28, x38, x48, x58, x68, x78, x88⟩ (fun hHeld => ?_)
                clear hKK KK
                try simp only [Act.put, List.setIfInBounds_toArray, List.set_cons_zero, List.set_cons_succ]
                refine wpAnyH_take (i := 9) (oi := { dst := some 59, op := _, type := _, pos := _, after := _, guard := _ }) (v := ?_) rfl (by kernel_rfl) (by kernel_rfl) (by kernel_rfl) (fun _ _ _ h => h) (Or.inl ⟨by rfl, ?_⟩) (by assumption) ?_
                rotate_left
                · intro w hSw; (try dsimp only at hSw); go_simp; (try with_reducible rfl)
                simp only [Act.put, List.setIfInBounds_toArray, List.set_cons_zero, List.set_cons_succ]
                refine wpAnyH_take (i := 10) (oi := { dst := some 60, op := _, type := _, pos := _, after := _, guard := _ }) (v := ?_) rfl (by kernel_rfl) (by kernel_rfl) (by kernel_rfl) (fun _ _ _ h => h) (Or.inl ⟨by rfl, ?_⟩) (by assumption) ?_
                rotate_left
                · intro w hSw; (try dsimp only at hSw); go_simp; (try with_reducible rfl)
                simp only [Act.put, List.setIfInBounds_toArray, List.set_cons_zero, List.set_cons_succ]
                refine wpAnyH_take (i := 11) (oi := { dst := some 61, op := _, type := _, pos := _, after := _, guard := _ }) (v := ?_) rfl (by kernel_rfl) (by kernel_rfl) (by kernel_rfl) (fun _ _ _ h => h) (Or.inl ⟨by rfl, ?_⟩) (by assumption) ?_
                rotate_left
                · intro w hSw; (try dsimp only at hSw); go_simp; (try with_reducible rfl)
                simp only [Act.put, List.setIfInBounds_toArray, List.set_cons_zero, List.set_cons_succ]
                refine wpAnyH_take (i := 12) (oi := { dst := some 62, op := _, type := _, pos := _, after := _, guard := _ }) (v := ?_) rfl (by kernel_rfl) (by kernel_rfl) (by kernel_rfl) (fun _ _ _ h => h) (Or.inl ⟨by rfl, ?_⟩) (by assumption) ?_
                rotate_left
                · intro w hSw; (try dsimp only at hSw); go_simp; (try with_reducible rfl)
                simp only [Act.put, List.setIfInBounds_toArray, List.set_cons_zero, List.set_cons_succ]
                refine wpAnyH_take (i := 13) (oi := { dst := some 63, op := _, type := _, pos := _, after := _, guard := _ }) (v := ?_) rfl (by kernel_rfl) (by kernel_rfl) (by kernel_rfl) (fun _ _ _ h => h) (Or.inl ⟨by rfl, ?_⟩) (by assumption) ?_
                rotate_left
                · intro w hSw; (try dsimp only at hSw); go_simp; (try with_reducible rfl)
                simp only [Act.put, List.setIfInBounds_toArray, List.set_cons_zero, List.set_cons_succ]
                refine wpAnyH_take (i := 14) (oi := { dst := some 64, op := _, type := _, pos := _, after := _, guard := _ }) (v := ?_) rfl (by kernel_rfl) (by kernel_rfl) (by kernel_rfl) (fun _ _ _ h => h) (Or.inl ⟨by rfl, ?_⟩) (by assumption) ?_
                rotate_left
                · intro w hSw; (try dsimp only at hSw); go_simp; (try with_reducible rfl)
                simp only [Act.put, List.setIfInBounds_toArray, List.set_cons_zero, List.set_cons_succ]
                refine wpAnyH_take (i := 15) (oi := { dst := some 65, op := _, type := _, pos := _, after := _, guard := _ }) (v := ?_) rfl (by kernel_rfl) (by kernel_rfl) (by kernel_rfl) (fun _ _ _ h => h) (Or.inl ⟨by rfl, ?_⟩) (by assumption) ?_
                rotate_left
                · intro w hSw; (try dsimp only at hSw); go_simp; (try with_reducible rfl)
                simp only [Act.put, List.setIfInBounds_toArray, List.set_cons_zero, List.set_cons_succ]
                refine wpAnyH_take (i := 16) (oi := { dst := some 66, op := _, type := _, pos := _, after := _, guard := _ }) (v := ?_) rfl (by kernel_rfl) (by kernel_rfl) (by kernel_rfl) (fun _ _ _ h => h) (Or.inl ⟨by rfl, ?_⟩) (by assumption) ?_
                rotate_left
                · intro w hSw; (try dsimp only at hSw); go_simp; (try with_reducible rfl)
                simp only [Act.put, List.setIfInBounds_toArray, List.set_cons_zero, List.set_cons_succ]
                refine wpAnyH_take (i := 17) (oi := { dst := some 67, op := _, type := _, pos := _, after := _, guard := _ }) rfl (by kernel_rfl) (by kernel_rfl) (by kernel_rfl) (fun _ _ _ h => h) (Or.inr ⟨by kernel_rfl, rfl⟩) (by assumption) ?_
                simp only [Act.put, List.setIfInBounds_toArray, List.set_cons_zero, List.set_cons_succ]
                refine wpAnyH_take (i := 18) (oi := { dst := some 68, op := _, type := _, pos := _, after := _, guard := _ }) rfl (by kernel_rfl) (by kernel_rfl) (by kernel_rfl) (fun _ _ _ h => h) (Or.inr ⟨by kernel_rfl, rfl⟩) (by assumption) ?_
                simp only [Act.put, List.setIfInBounds_toArray, List.set_cons_zero, List.set_cons_succ]
                refine wpAnyH_take (i := 19) (oi := { dst := some 69, op := _, type := _, pos := _, after := _, guard := _ }) rfl (by kernel_rfl) (by kernel_rfl) (by kernel_rfl) (fun _ _ _ h => h) (Or.inr ⟨by kernel_rfl, rfl⟩) (by assumption) ?_
                simp only [Act.put, List.setIfInBounds_toArray, List.set_cons_zero, List.set_cons_succ]
                refine wpAnyH_take (i := 20) (oi := { dst := some 70, op := _, type := _, pos := _, after := _, guard := _ }) rfl (by kernel_rfl) (by kernel_rfl) (by kernel_rfl) (fun _ _ _ h => h) (Or.inr ⟨by kernel_rfl, rfl⟩) (by assumption) ?_
                simp only [Act.put, List.setIfInBounds_toArray, List.set_cons_zero, List.set_cons_succ]
                refine wpAnyH_take (i := 21) (oi := { dst := some 71, op := _, type := _, pos := _, after := _, guard := _ }) rfl (by kernel_rfl) (by kernel_rfl) (by kernel_rfl) (fun _ _ _ h => h) (Or.inr ⟨by kernel_rfl, rfl⟩) (by assumption) ?_
                simp only [Act.put, List.setIfInBounds_toArray, List.set_cons_zero, List.set_cons_succ]
                refine wpAnyH_take (i := 22) (oi := { dst := some 72, op := _, type := _, pos := _, after := _, guard := _ }) (v := ?_) rfl (by kernel_rfl) (by kernel_rfl) (by kernel_rfl) (fun _ _ _ h => h) (Or.inl ⟨by rfl, ?_⟩) (by assumption) ?_
                rotate_left
                · intro w hSw; (try dsimp only at hSw); go_simp; (try with_reducible rfl)
                simp only [Act.put, List.setIfInBounds_toArray, List.set_cons_zero, List.set_cons_succ]
                refine wpAnyH_take (i := 23) (oi := { dst := some 73, op := _, type := _, pos := _, after := _, guard := _ }) (v := ?_) rfl (by kernel_rfl) (by kernel_rfl) (by kernel_rfl) (fun _ _ _ h => h) (Or.inl ⟨by rfl, ?_⟩) (by assumption) ?_
                rotate_left
                · intro w hSw; (try dsimp only at hSw); go_simp; (try with_reducible rfl)
                simp only [Act.put, List.setIfInBounds_toArray, List.set_cons_zero, List.set_cons_succ]
                refine wpAnyH_done (by kernel_rfl) ?_ _
                refine NoPanic.normal ?_
                go_wp2
                go_roundw
                case rel => exact ⟨k, k, by omega, by omega, by go_num, rfl, HQ, WK8⟩
                case measure => simp [intOf]; (try omega)
              | true =>
                by_cases hkh : k = hi0
                · have hke : ((k : Int) == hz) = true := by rw [HHZ.out]; simp [hkh]
                  have HQ := Lib.hid (show IsP _ k hi0 (k : Int) by have := IsP.dn HI.out (show k ≤ hi0 by omega); rw [HDF.out, hft, if_pos (by simp [hkh])] at this; exact this)
                  clear hft HI hkh
                  refine wp_region_noPanic ?_
                  refine wp_region_held_drew (S := (fun w' => Hid (W1.grownBy w' none) ∧ Hid (u3.grownBy w' none) ∧ w'.cell? ⟨sb, so + k, none⟩ = some (.slice ai n ci) ∧ w'.cell? ⟨tb, off + i * 9, none⟩ = some (.int .i64 xth) ∧ w'.cell? ⟨tb, off + i * 9 + 1, none⟩ = some (.int .i64 xtx) ∧ w'.cell? ⟨tb, off + i * 9 + 2, none⟩ = some (.int .i64 xat) ∧ w'.cell? ⟨tb, off + i * 9 + 3, none⟩ = some (.int .i64 xst) ∧ w'.cell? ⟨tb, off + i * 9 + 4, none⟩ = some (.int .i64 xb) ∧ w'.cell? ⟨tb, off + i * 9 + 5, none⟩ = some (.int .i64 (eo : Int)) ∧ w'.cell? ⟨tb, off + i * 9 + 6, none⟩ = some (.int .i64 xre) ∧ w'.cell? ⟨tb, off + i * 9 + 7, none⟩ = some (.bool true) ∧ w'.cell? ⟨tb, off + i * 9 + 8, none⟩ = some (.slice va xac.length vc))) (by kernel_rfl) ?_ (fun hHeld => ?_)
                  · go_keep
                  refine wpAnyH_take (i := 0) (oi := { dst := some 50, op := _, type := _, pos := _, after := _, guard := _ }) (v := ?_) rfl (by kernel_rfl) (by kernel_rfl) (by kernel_rfl) (fun _ _ _ h => h) (Or.inl ⟨by rfl, ?_⟩) (by assumption) ?_
                  rotate_left
                  · intro w hSw; (try dsimp only at hSw); go_simp; (try with_reducible rfl)
                  simp only [Act.put, List.setIfInBounds_toArray, List.set_cons_zero, List.set_cons_succ]
                  refine wpAnyH_take (i := 1) (oi := { dst := some 51, op := _, type := _, pos := _, after := _, guard := _ }) (v := ?_) rfl (by kernel_rfl) (by kernel_rfl) (by kernel_rfl) (fun _ _ _ h => h) (Or.inl ⟨by rfl, ?_⟩) (by assumption) ?_
                  rotate_left
                  · intro w hSw; (try dsimp only at hSw); go_simp; (try with_reducible rfl)
                  simp only [Act.put, List.setIfInBounds_toArray, List.set_cons_zero, List.set_cons_succ]
                  refine wpAnyH_take (i := 2) (oi := { dst := some 52, op := _, type := _, pos := _, after := _, guard := _ }) (v := ?_) rfl (by kernel_rfl) (by kernel_rfl) (by kernel_rfl) (fun _ _ _ h => h) (Or.inl ⟨by rfl, ?_⟩) (by assumption) ?_
                  rotate_left
                  · intro w hSw; (try dsimp only at hSw); go_simp; (try with_reducible rfl)
                  simp only [Act.put, List.setIfInBounds_toArray, List.set_cons_zero, List.set_cons_succ]
                  refine wpAnyH_take (i := 3) (oi := { dst := some 53, op := _, type := _, pos := _, after := _, guard := _ }) (v := ?_) rfl (by kernel_rfl) (by kernel_rfl) (by kernel_rfl) (fun _ _ _ h => h) (Or.inl ⟨by rfl, ?_⟩) (by assumption) ?_
                  rotate_left
                  · intro w hSw; (try dsimp only at hSw); go_simp; (try with_reducible rfl)
                  simp only [Act.put, List.setIfInBounds_toArray, List.set_cons_zero, List.set_cons_succ]
                  refine wpAnyH_take (i := 4) (oi := { dst := some 54, op := _, type := _, pos := _, after := _, guard := _ }) (v := ?_) rfl (by kernel_rfl) (by kernel_rfl) (by kernel_rfl) (fun _ _ _ h => h) (Or.inl ⟨by rfl, ?_⟩) (by assumption) ?_
                  rotate_left
                  · intro w hSw; (try dsimp only at hSw); go_simp; (try with_reducible rfl)
                  simp only [Act.put, List.setIfInBounds_toArray, List.set_cons_zero, List.set_cons_succ]
                  refine wpAnyH_take (i := 5) (oi := { dst := some 55, op := _, type := _, pos := _, after := _, guard := _ }) (v := ?_) rfl (by kernel_rfl) (by kernel_rfl) (by kernel_rfl) (fun _ _ _ h => h) (Or.inl ⟨by rfl, ?_⟩) (by assumption) ?_
                  rotate_left
                  · intro w hSw; (try dsimp only at hSw); go_simp; (try with_reducible rfl)
                  simp only [Act.put, List.setIfInBounds_toArray, List.set_cons_zero, List.set_cons_succ]
                  refine wpAnyH_take (i := 6) (oi := { dst := some 56, op := _, type := _, pos := _, after := _, guard := _ }) (v := ?_) rfl (by kernel_rfl) (by kernel_rfl) (by kernel_rfl) (fun _ _ _ h => h) (Or.inl ⟨by rfl, ?_⟩) (by assumption) ?_
                  rotate_left
                  · intro w hSw; (try dsimp only at hSw); go_simp; (try with_reducible rfl)
                  simp only [Act.put, List.setIfInBounds_toArray, List.set_cons_zero, List.set_cons_succ]
                  refine wpAnyH_take (i := 7) (oi := { dst := some 57, op := _, type := _, pos := _, after := _, guard := _ }) (v := ?_) rfl (by kernel_rfl) (by kernel_rfl) (by kernel_rfl) (fun _ _ _ h => h) (Or.inl ⟨by rfl, ?_⟩) (by assumption) ?_
                  rotate_left
                  · intro w hSw; (try dsimp only at hSw); go_simp; (try with_reducible rfl)
                  simp only [Act.put, List.setIfInBounds_toArray, List.set_cons_zero, List.set_cons_succ]
                  refine wpAnyH_ready (rs := [8]) (by kernel_rfl) (by simp) ?_
                  refine AllReadyH.cons (o := { dst := some 58, op := _, type := _, pos := _, after := _, guard := _ }) rfl (fun KK hKK => ?_) AllReadyH.nil
                  go_simp
                  go_at_call 26
                  refine (reffits_any ai n ci (stAt z (cacs e _) k) ⟨xth, xtx, xat, xst, xb, _, xre, true, xac⟩ va vc _ (NK.out.grown (by refine Hid.out ?_; assumption)) (HLA.out.grown (by refine Hid.out ?_; assumption)) (by have := HN.out; omega) hac6).mono ?_
                  dsimp only
                  rw [FT.out]
                  rintro r u8 ⟨rfl, g8⟩
                  have WK8 : Hid (W1.grownBy u8 none) := Lib.hid (gb_trans (by refine Hid.out ?_; assumption) g8.out); have K8 : Hid (u3.grownBy u8 none) := Lib.hid (gb_trans (by refine Hid.out ?_; assumption) g8.out); have xs8 := K8.out.cell cs (by simp); have x08 := K8.out.cell d0 (by simp); have x18 := K8.out.cell d1 (by simp); have x28 := K8.out.cell d2 (by simp); have x38 := K8.out.cell d3 (by simp); have x48 := K8.out.cell d4 (by simp); have x58 := K8.out.cell d5 (by simp); have x68 := K8.out.cell d6 (by simp); have x78 := K8.out.cell d7 (by simp); have x88 := K8.out.cell d8 (by simp)
                  dsimp only
                  refine hKK.out _ _ ⟨WK8, K8, xs8, x08, x18, x28, x38, x48, x58, x68, x78, x88⟩ (fun hHeld => ?_)
                  clear hKK KK
                  try simp only [Act.put, List.setIfInBounds_toArray, List.set_cons_zero, List.set_cons_succ]
                  refine wpAnyH_take (i := 9) (oi := { dst := some 59, op := _, type := _, pos := _, after := _, guard := _ }) (v := ?_) rfl (by kernel_rfl) (by kernel_rfl) (by kernel_rfl) (fun _ _ _ h => h) (Or.inl ⟨by rfl, ?_⟩) (by assumption) ?_
                  rotate_left
                  · intro w hSw; (try dsimp only at hSw); go_simp; (try with_reducible rfl)
                  simp only [Act.put, List.setIfInBounds_toArray, List.set_cons_zero, List.set_cons_succ]
                  refine wpAnyH_take (i := 10) (oi := { dst := some 60, op := _, type := _, pos := _, after := _, guard := _ }) (v := ?_) rfl (by kernel_rfl) (by kernel_rfl) (by kernel_rfl) (fun _ _ _ h => h) (Or.inl ⟨by rfl, ?_⟩) (by assumption) ?_
                  rotate_left
                  · intro w hSw; (try dsimp only at hSw); go_simp; (try with_reducible rfl)
                  simp only [Act.put, List.setIfInBounds_toArray, List.set_cons_zero, List.set_cons_succ]
                  refine wpAnyH_take (i := 11) (oi := { dst := some 61, op := _, type := _, pos := _, after := _, guard := _ }) (v := ?_) rfl (by kernel_rfl) (by kernel_rfl) (by kernel_rfl) (fun _ _ _ h => h) (Or.inl ⟨by rfl, ?_⟩) (by assumption) ?_
                  rotate_left
                  · intro w hSw; (try dsimp only at hSw); go_simp; (try with_reducible rfl)
                  simp only [Act.put, List.setIfInBounds_toArray, List.set_cons_zero, List.set_cons_succ]
                  refine wpAnyH_take (i := 12) (oi := { dst := some 62, op := _, type := _, pos := _, after := _, guard := _ }) (v := ?_) rfl (by kernel_rfl) (by kernel_rfl) (by kernel_rfl) (fun _ _ _ h => h) (Or.inl ⟨by rfl, ?_⟩) (by assumption) ?_
                  rotate_left
                  · intro w hSw; (try dsimp only at hSw); go_simp; (try with_reducible rfl)
                  simp only [Act.put, List.setIfInBounds_toArray, List.set_cons_zero, List.set_cons_succ]
                  refine wpAnyH_take (i := 13) (oi := { dst := some 63, op := _, type := _, pos := _, after := _, guard := _ }) (v := ?_) rfl (by kernel_rfl) (by kernel_rfl) (by kernel_rfl) (fun _ _ _ h => h) (Or.inl ⟨by rfl, ?_⟩) (by assumption) ?_
                  rotate_left
                  · intro w hSw; (try dsimp only at hSw); go_simp; (try with_reducible rfl)
                  simp only [Act.put, List.setIfInBounds_toArray, List.set_cons_zero, List.set_cons_succ]
                  refine wpAnyH_take (i := 14) (oi := { dst := some 64, op := _, type := _, pos := _, after := _, guard := _ }) (v := ?_) rfl (by kernel_rfl) (by kernel_rfl) (by kernel_rfl) (fun _ _ _ h => h) (Or.inl ⟨by rfl, ?_⟩) (by assumption) ?_
                  rotate_left
                  · intro w hSw; (try dsimp only at hSw); go_simp; (try with_reducible rfl)
                  simp only [Act.put, List.setIfInBounds_toArray, List.set_cons_zero, List.set_cons_succ]
                  refine wpAnyH_take (i := 15) (oi := { dst := some 65, op := _, type := _, pos := _, after := _, guard := _ }) (v := ?_) rfl (by kernel_rfl) (by kernel_rfl) (by kernel_rfl) (fun _ _ _ h => h) (Or.inl ⟨by rfl, ?_⟩) (by assumption) ?_
                  rotate_left
                  · intro w hSw; (try dsimp only at hSw); go_simp; (try with_reducible rfl)
                  simp only [Act.put, List.setIfInBounds_toArray, List.set_cons_zero, List.set_cons_succ]
                  refine wpAnyH_take (i := 16) (oi := { dst := some 66, op := _, type := _, pos := _, after := _, guard := _ }) (v := ?_) rfl (by kernel_rfl) (by kernel_rfl) (by kernel_rfl) (fun _ _ _ h => h) (Or.inl ⟨by rfl, ?_⟩) (by assumption) ?_
                  rotate_left
                  · intro w hSw; (try dsimp only at hSw); go_simp; (try with_reducible rfl)
                  simp only [Act.put, List.setIfInBounds_toArray, List.set_cons_zero, List.set_cons_succ]
                  refine wpAnyH_take (i := 17) (oi := { dst := some 67, op := _, type := _, pos := _, after := _, guard := _ }) (v := ?_) rfl (by kernel_rfl) (by kernel_rfl) (by kernel_rfl) (fun _ _ _ h => h) (Or.inl ⟨by rfl, ?_⟩) (by assumption) ?_
                  rotate_left
                  · intro w hSw; (try dsimp only at hSw); go_simp; (try with_reducible rfl)
                  simp only [Act.put, List.setIfInBounds_toArray, List.set_cons_zero, List.set_cons_succ]
                  refine wpAnyH_take (i := 18) (oi := { dst := some 68, op := _, type := _, pos := _, after := _, guard := _ }) (v := ?_) rfl (by kernel_rfl) (by kernel_rfl) (by kernel_rfl) (fun _ _ _ h => h) (Or.inl ⟨by rfl, ?_⟩) (by assumption) ?_
                  rotate_left
                  · intro w hSw; (try dsimp only at hSw); go_simp; (try with_reducible rfl)
                  simp only [Act.put, List.setIfInBounds_toArray, List.set_cons_zero, List.set_cons_succ]
                  refine wpAnyH_take (i := 19) (oi := { dst := some 69, op := _, type := _, pos := _, after := _, guard := _ }) (v := ?_) rfl (by kernel_rfl) (by kernel_rfl) (by kernel_rfl) (fun _ _ _ h => h) (Or.inl ⟨by rfl, ?_⟩) (by assumption) ?_
                  rotate_left
                  · intro w hSw; (try dsimp only at hSw); go_simp; (try with_reducible rfl)
                  simp only [Act.put, List.setIfInBounds_toArray, List.set_cons_zero, List.set_cons_succ]
                  refine wpAnyH_ready (rs := [20]) (by kernel_rfl) (by simp) ?_
                  refine AllReadyH.cons (o := { dst := some 70, op := _, type := _, pos := _, after := _, guard := _ }) rfl (fun KK hKK => ?_) AllReadyH.nil
                  go_simp
                  go_at_call 25
                  refine (BE.out _ (by assumption)).mono ?_
                  rintro r u9 ⟨rfl, g9⟩
                  have WK9 : Hid (W1.grownBy u9 none) := Lib.hid (gb_trans (by refine Hid.out ?_; assumption) g9.out); have K9 : Hid (u3.grownBy u9 none) := Lib.hid (gb_trans (by refine Hid.out ?_; assumption) g9.out); have xs9 := K9.out.cell cs (by simp); have x09 := K9.out.cell d0 (by simp); have x19 := K9.out.cell d1 (by simp); have x29 := K9.out.cell d2 (by simp); have x39 := K9.out.cell d3 (by simp); have x49 := K9.out.cell d4 (by simp); have x59 := K9.out.cell d5 (by simp); have x69 := K9.out.cell d6 (by simp); have x79 := K9.out.cell d7 (by simp); have x89 := K9.out.cell d8 (by simp); clear WK8 K8 xs8 x08 x18 x28 x38 x48 x58 x68 x78 x88
                  dsimp only
                  refine hKK.out _ _ ⟨WK9, K9, xs9, x09, x19, x29, x39, x49, x59, x69, x79, x89⟩ (fun hHeld => ?_)
                  clear hKK KK
                  try simp only [Act.put, List.setIfInBounds_toArray, List.set_cons_zero, List.set_cons_succ]
                  refine wpAnyH_take (i := 21) (oi := { dst := some 71, op := _, type := _, pos := _, after := _, guard := _ }) (v := ?_) rfl (by kernel_rfl) (by kernel_rfl) (by kernel_rfl) (fun _ _ _ h => h) (Or.inl ⟨by rfl, ?_⟩) (by assumption) ?_
                  rotate_left
                  · intro w hSw; (try dsimp only at hSw); go_simp; (try with_reducible rfl)
                  simp only [Act.put, List.setIfInBounds_toArray, List.set_cons_zero, List.set_cons_succ]
                  refine wpAnyH_take (i := 22) (oi := { dst := some 72, op := _, type := _, pos := _, after := _, guard := _ }) (v := ?_) rfl (by kernel_rfl) (by kernel_rfl) (by kernel_rfl) (fun _ _ _ h => h) (Or.inl ⟨by rfl, ?_⟩) (by assumption) ?_
                  rotate_left
                  · intro w hSw; (try dsimp only at hSw); go_simp; (try with_reducible rfl)
                  simp only [Act.put, List.setIfInBounds_toArray, List.set_cons_zero, List.set_cons_succ]
                  refine wpAnyH_take (i := 23) (oi := { dst := some 73, op := _, type := _, pos := _, after := _, guard := _ }) (v := ?_) rfl (by kernel_rfl) (by kernel_rfl) (by kernel_rfl) (fun _ _ _ h => h) (Or.inl ⟨by rfl, ?_⟩) (by assumption) ?_
                  rotate_left
                  · intro w hSw; (try dsimp only at hSw); go_simp; (try with_reducible rfl)
                  simp only [Act.put, List.setIfInBounds_toArray, List.set_cons_zero, List.set_cons_succ]
                  refine wpAnyH_done (by kernel_rfl) ?_ _
                  refine NoPanic.normal ?_
                  go_wp2
                  go_roundw
                  case rel => exact ⟨k, k, by omega, by omega, by go_num, rfl, HQ, WK9⟩
                  case measure => simp [intOf]; (try omega)
                · have hke : ((k : Int) == hz) = false := by rw [HHZ.out]; simp; omega
                  have HQ := Lib.hid (show IsP _ k hi0 q by have := IsP.dn HI.out (show k ≤ hi0 by omega); rw [HDF.out, hft, if_neg (by simp [hkh])] at this; exact this)
                  clear hft HI hkh
                  refine wp_region_noPanic ?_
                  refine wp_region_held_drew (S := (fun w' => Hid (W1.grownBy w' none) ∧ Hid (u3.grownBy w' none) ∧ w'.cell? ⟨sb, so + k, none⟩ = some (.slice ai n ci) ∧ w'.cell? ⟨tb, off + i * 9, none⟩ = some (.int .i64 xth) ∧ w'.cell? ⟨tb, off + i * 9 + 1, none⟩ = some (.int .i64 xtx) ∧ w'.cell? ⟨tb, off + i * 9 + 2, none⟩ = some (.int .i64 xat) ∧ w'.cell? ⟨tb, off + i * 9 + 3, none⟩ = some (.int .i64 xst) ∧ w'.cell? ⟨tb, off + i * 9 + 4, none⟩ = some (.int .i64 xb) ∧ w'.cell? ⟨tb, off + i * 9 + 5, none⟩ = some (.int .i64 (eo : Int)) ∧ w'.cell? ⟨tb, off + i * 9 + 6, none⟩ = some (.int .i64 xre) ∧ w'.cell? ⟨tb, off + i * 9 + 7, none⟩ = some (.bool true) ∧ w'.cell? ⟨tb, off + i * 9 + 8, none⟩ = some (.slice va xac.length vc))) (by kernel_rfl) ?_ (fun hHeld => ?_)
                  · go_keep
                  refine wpAnyH_take (i := 0) (oi := { dst := some 50, op := _, type := _, pos := _, after := _, guard := _ }) (v := ?_) rfl (by kernel_rfl) (by kernel_rfl) (by kernel_rfl) (fun _ _ _ h => h) (Or.inl ⟨by rfl, ?_⟩) (by assumption) ?_
                  rotate_left
                  · intro w hSw; (try dsimp only at hSw); go_simp; (try with_reducible rfl)
                  simp only [Act.put, List.setIfInBounds_toArray, List.set_cons_zero, List.set_cons_succ]
                  refine wpAnyH_take (i := 1) (oi := { dst := some 51, op := _, type := _, pos := _, after := _, guard := _ }) (v := ?_) rfl (by kernel_rfl) (by kernel_rfl) (by kernel_rfl) (fun _ _ _ h => h) (Or.inl ⟨by rfl, ?_⟩) (by assumption) ?_
                  rotate_left
                  · intro w hSw; (try dsimp only at hSw); go_simp; (try with_reducible rfl)
                  simp only [Act.put, List.setIfInBounds_toArray, List.set_cons_zero, List.set_cons_succ]
                  refine wpAnyH_take (i := 2) (oi := { dst := some 52, op := _, type := _, pos := _, after := _, guard := _ }) (v := ?_) rfl (by kernel_rfl) (by kernel_rfl) (by kernel_rfl) (fun _ _ _ h => h) (Or.inl ⟨by rfl, ?_⟩) (by assumption) ?_
                  rotate_left
                  · intro w hSw; (try dsimp only at hSw); go_simp; (try with_reducible rfl)
                  simp only [Act.put, List.setIfInBounds_toArray, List.set_cons_zero, List.set_cons_succ]
                  refine wpAnyH_take (i := 3) (oi := { dst := some 53, op := _, type := _, pos := _, after := _, guard := _ }) (v := ?_) rfl (by kernel_rfl) (by kernel_rfl) (by kernel_rfl) (fun _ _ _ h => h) (Or.inl ⟨by rfl, ?_⟩) (by assumption) ?_
                  rotate_left
                  · intro w hSw; (try dsimp only at hSw); go_simp; (try with_reducible rfl)
                  simp only [Act.put, List.setIfInBounds_toArray, List.set_cons_zero, List.set_cons_succ]
                  refine wpAnyH_take (i := 4) (oi := { dst := some 54, op := _, type := _, pos := _, after := _, guard := _ }) (v := ?_) rfl (by kernel_rfl) (by kernel_rfl) (by kernel_rfl) (fun _ _ _ h => h) (Or.inl ⟨by rfl, ?_⟩) (by assumption) ?_
                  rotate_left
                  · intro w hSw; (try dsimp only at hSw); go_simp; (try with_reducible rfl)
                  simp only [Act.put, List.setIfInBounds_toArray, List.set_cons_zero, List.set_cons_succ]
                  refine wpAnyH_take (i := 5) (oi := { dst := some 55, op := _, type := _, pos := _, after := _, guard := _ }) (v := ?_) rfl (by kernel_rfl) (by kernel_rfl) (by kernel_rfl) (fun _ _ _ h => h) (Or.inl ⟨by rfl, ?_⟩) (by assumption) ?_
                  rotate_left
                  · intro w hSw; (try dsimp only at hSw); go_simp; (try with_reducible rfl)
                  simp only [Act.put, List.setIfInBounds_toArray, List.set_cons_zero, List.set_cons_succ]
                  refine wpAnyH_take (i := 6) (oi := { dst := some 56, op := _, type := _, pos := _, after := _, guard := _ }) (v := ?_) rfl (by kernel_rfl) (by kernel_rfl) (by kernel_rfl) (fun _ _ _ h => h) (Or.inl ⟨by rfl, ?_⟩) (by assumption) ?_
                  rotate_left
                  · intro w hSw; (try dsimp only at hSw); go_simp; (try with_reducible rfl)
                  simp only [Act.put, List.setIfInBounds_toArray, List.set_cons_zero, List.set_cons_succ]
                  refine wpAnyH_take (i := 7) (oi := { dst := some 57, op := _, type := _, pos := _, after := _, guard := _ }) (v := ?_) rfl (by kernel_rfl) (by kernel_rfl) (by kernel_rfl) (fun _ _ _ h => h) (Or.inl ⟨by rfl, ?_⟩) (by assumption) ?_
                  rotate_left
                  · intro w hSw; (try dsimp only at hSw); go_simp; (try with_reducible rfl)
                  simp only [Act.put, List.setIfInBounds_toArray, List.set_cons_zero, List.set_cons_succ]
                  refine wpAnyH_ready (rs := [8]) (by kernel_rfl) (by simp) ?_
                  refine AllReadyH.cons (o := { dst := some 58, op := _, type := _, pos := _, after := _, guard := _ }) rfl (fun KK hKK => ?_) AllReadyH.nil
                  go_simp
                  go_at_call 26
                  refine (reffits_any ai n ci (stAt z (cacs e _) k) ⟨xth, xtx, xat, xst, xb, _, xre, true, xac⟩ va vc _ (NK.out.grown (by refine Hid.out ?_; assumption)) (HLA.out.grown (by refine Hid.out ?_; assumption)) (by have := HN.out; omega) hac6).mono ?_
                  dsimp only
                  rw [FT.out]
                  rintro r u8 ⟨rfl, g8⟩
                  have WK8 : Hid (W1.grownBy u8 none) := Lib.hid (gb_trans (by refine Hid.out ?_; assumption) g8.out); have K8 : Hid (u3.grownBy u8 none) := Lib.hid (gb_trans (by refine Hid.out ?_; assumption) g8.out); have xs8 := K8.out.cell cs (by simp); have x08 := K8.out.cell d0 (by simp); have x18 := K8.out.cell d1 (by simp); have x28 := K8.out.cell d2 (by simp); have x38 := K8.out.cell d3 (by simp); have x48 := K8.out.cell d4 (by simp); have x58 := K8.out.cell d5 (by simp); have x68 := K8.out.cell d6 (by simp); have x78 := K8.out.cell d7 (by simp); have x88 := K8.out.cell d8 (by simp)
                  dsimp only
                  refine hKK.out _ _ ⟨WK8, K8, xs8, x08, x18, x28, x38, x48, x58, x68, x78, x88⟩ (fun hHeld => ?_)
                  clear hKK KK
                  try simp only [Act.put, List.setIfInBounds_toArray, List.set_cons_zero, List.set_cons_succ]
                  refine wpAnyH_take (i := 9) (oi := { dst := some 59, op := _, type := _, pos := _, after := _, guard := _ }) (v := ?_) rfl (by kernel_rfl) (by kernel_rfl) (by kernel_rfl) (fun _ _ _ h => h) (Or.inl ⟨by rfl, ?_⟩) (by assumption) ?_
                  rotate_left
                  · intro w hSw; (try dsimp only at hSw); go_simp; (try with_reducible rfl)
                  simp only [Act.put, List.setIfInBounds_toArray, List.set_cons_zero, List.set_cons_succ]
                  refine wpAnyH_take (i := 10) (oi := { dst := some 60, op := _, type := _, pos := _, after := _, guard := _ }) (v := ?_) rfl (by kernel_rfl) (by kernel_rfl) (by kernel_rfl) (fun _ _ _ h => h) (Or.inl ⟨by rfl, ?_⟩) (by assumption) ?_
                  rotate_left
                  · intro w hSw; (try dsimp only at hSw); go_simp; (try with_reducible rfl)
                  simp only [Act.put, List.setIfInBounds_toArray, List.set_cons_zero, List.set_cons_succ]
                  refine wpAnyH_take (i := 11) (oi := { dst := some 61, op := _, type := _, pos := _, after := _, guard := _ }) (v := ?_) rfl (by kernel_rfl) (by kernel_rfl) (by kernel_rfl) (fun _ _ _ h => h) (Or.inl ⟨by rfl, ?_⟩) (by assumption) ?_
                  rotate_left
                  · intro w hSw; (try dsimp only at hSw); go_simp; (try with_reducible rfl)
                  simp only [Act.put, List.setIfInBounds_toArray, List.set_cons_zero, List.set_cons_succ]
                  refine wpAnyH_take (i := 12) (oi := { dst := some 62, op := _, type := _, pos := _, after := _, guard := _ }) (v := ?_) rfl (by kernel_rfl) (by kernel_rfl) (by kernel_rfl) (fun _ _ _ h => h) (Or.inl ⟨by rfl, ?_⟩) (by assumption) ?_
                  rotate_left
                  · intro w hSw; (try dsimp only at hSw); go_simp; (try with_reducible rfl)
                  simp only [Act.put, List.setIfInBounds_toArray, List.set_cons_zero, List.set_cons_succ]
                  refine wpAnyH_take (i := 13) (oi := { dst := some 63, op := _, type := _, pos := _, after := _, guard := _ }) (v := ?_) rfl (by kernel_rfl) (by kernel_rfl) (by kernel_rfl) (fun _ _ _ h => h) (Or.inl ⟨by rfl, ?_⟩) (by assumption) ?_
                  rotate_left
                  · intro w hSw; (try dsimp only at hSw); go_simp; (try with_reducible rfl)
                  simp only [Act.put, List.setIfInBounds_toArray, List.set_cons_zero, List.set_cons_succ]
                  refine wpAnyH_take (i := 14) (oi := { dst := some 64, op := _, type := _, pos := _, after := _, guard := _ }) (v := ?_) rfl (by kernel_rfl) (by kernel_rfl) (by kernel_rfl) (fun _ _ _ h => h) (Or.inl ⟨by rfl, ?_⟩) (by assumption) ?_
                  rotate_left
                  · intro w hSw; (try dsimp only at hSw); go_simp; (try with_reducible rfl)
                  simp only [Act.put, List.setIfInBounds_toArray, List.set_cons_zero, List.set_cons_succ]
                  refine wpAnyH_take (i := 15) (oi := { dst := some 65, op := _, type := _, pos := _, after := _, guard := _ }) (v := ?_) rfl (by kernel_rfl) (by kernel_rfl) (by kernel_rfl) (fun _ _ _ h => h) (Or.inl ⟨by rfl, ?_⟩) (by assumption) ?_
                  rotate_left
                  · intro w hSw; (try dsimp only at hSw); go_simp; (try with_reducible rfl)
                  simp only [Act.put, List.setIfInBounds_toArray, List.set_cons_zero, List.set_cons_succ]
                  refine wpAnyH_take (i := 16) (oi := { dst := some 66, op := _, type := _, pos := _, after := _, guard := _ }) (v := ?_) rfl (by kernel_rfl) (by kernel_rfl) (by kernel_rfl) (fun _ _ _ h => h) (Or.inl ⟨by rfl, ?_⟩) (by assumption) ?_
                  rotate_left
                  · intro w hSw; (try dsimp only at hSw); go_simp; (try with_reducible rfl)
                  simp only [Act.put, List.setIfInBounds_toArray, List.set_cons_zero, List.set_cons_succ]
                  refine wpAnyH_take (i := 17) (oi := { dst := some 67, op := _, type := _, pos := _, after := _, guard := _ }) (v := ?_) rfl (by kernel_rfl) (by kernel_rfl) (by kernel_rfl) (fun _ _ _ h => h) (Or.inl ⟨by rfl, ?_⟩) (by assumption) ?_
                  rotate_left
                  · intro w hSw; (try dsimp only at hSw); go_simp; (try with_reducible rfl)
                  simp only [Act.put, List.setIfInBounds_toArray, List.set_cons_zero, List.set_cons_succ]
                  refine wpAnyH_take (i := 18) (oi := { dst := some 68, op := _, type := _, pos := _, after := _, guard := _ }) (v := ?_) rfl (by kernel_rfl) (by kernel_rfl) (by kernel_rfl) (fun _ _ _ h => h) (Or.inl ⟨by rfl, ?_⟩) (by assumption) ?_
                  rotate_left
                  · intro w hSw; (try dsimp only at hSw); go_simp; (try with_reducible rfl)
                  simp only [Act.put, List.setIfInBounds_toArray, List.set_cons_zero, List.set_cons_succ]
                  refine wpAnyH_take (i := 19) (oi := { dst := some 69, op := _, type := _, pos := _, after := _, guard := _ }) (v := ?_) rfl (by kernel_rfl) (by kernel_rfl) (by kernel_rfl) (fun _ _ _ h => h) (Or.inl ⟨by rfl, ?_⟩) (by assumption) ?_
                  rotate_left
                  · intro w hSw; (try dsimp only at hSw); go_simp; (try with_reducible rfl)
                  simp only [Act.put, List.setIfInBounds_toArray, List.set_cons_zero, List.set_cons_succ]
                  refine wpAnyH_ready (rs := [20]) (by kernel_rfl) (by simp) ?_
                  refine AllReadyH.cons (o := { dst := some 70, op := _, type := _, pos := _, after := _, guard := _ }) rfl (fun KK hKK => ?_) AllReadyH.nil
                  go_simp
                  go_at_call 25
                  refine (BE.out _ (by assumption)).mono ?_
                  rintro r u9 ⟨rfl, g9⟩
                  have WK9 : Hid (W1.grownBy u9 none) := Lib.hid (gb_trans (by refine Hid.out ?_; assumption) g9.out); have K9 : Hid (u3.grownBy u9 none) := Lib.hid (gb_trans (by refine Hid.out ?_; assumption) g9.out); have xs9 := K9.out.cell cs (by simp); have x09 := K9.out.cell d0 (by simp); have x19 := K9.out.cell d1 (by simp); have x29 := K9.out.cell d2 (by simp); have x39 := K9.out.cell d3 (by simp); have x49 := K9.out.cell d4 (by simp); have x59 := K9.out.cell d5 (by simp); have x69 := K9.out.cell d6 (by simp); have x79 := K9.out.cell d7 (by simp); have x89 := K9.out.cell d8 (by simp); clear WK8 K8 xs8 x08 x18 x28 x38 x48 x58 x68 x78 x88
                  dsimp only
                  refine hKK.out _ _ ⟨WK9, K9, xs9, x09, x19, x29, x39, x49, x59, x69, x79, x89⟩ (fun hHeld => ?_)
                  clear hKK KK
                  try simp only [Act.put, List.setIfInBounds_toArray, List.set_cons_zero, List.set_cons_succ]
                  refine wpAnyH_take (i := 21) (oi := { dst := some 71, op := _, type := _, pos := _, after := _, guard := _ }) (v := ?_) rfl (by kernel_rfl) (by kernel_rfl) (by kernel_rfl) (fun _ _ _ h => h) (Or.inl ⟨by rfl, ?_⟩) (by assumption) ?_
                  rotate_left
                  · intro w hSw; (try dsimp only at hSw); go_simp; (try with_reducible rfl)
                  simp only [Act.put, List.setIfInBounds_toArray, List.set_cons_zero, List.set_cons_succ]
                  refine wpAnyH_take (i := 22) (oi := { dst := some 72, op := _, type := _, pos := _, after := _, guard := _ }) (v := ?_) rfl (by kernel_rfl) (by kernel_rfl) (by kernel_rfl) (fun _ _ _ h => h) (Or.inl ⟨by rfl, ?_⟩) (by assumption) ?_
                  rotate_left
                  · intro w hSw; (try dsimp only at hSw); go_simp; (try with_reducible rfl)
                  simp only [Act.put, List.setIfInBounds_toArray, List.set_cons_zero, List.set_cons_succ]
                  refine wpAnyH_take (i := 23) (oi := { dst := some 73, op := _, type := _, pos := _, after := _, guard := _ }) (v := ?_) rfl (by kernel_rfl) (by kernel_rfl) (by kernel_rfl) (fun _ _ _ h => h) (Or.inl ⟨by rfl, ?_⟩) (by assumption) ?_
                  rotate_left
                  · intro w hSw; (try dsimp only at hSw); go_simp; (try with_reducible rfl)
                  simp only [Act.put, List.setIfInBounds_toArray, List.set_cons_zero, List.set_cons_succ]
                  refine wpAnyH_done (by kernel_rfl) ?_ _
                  refine NoPanic.normal ?_
                  go_wp2
                  go_roundw
                  case rel => exact ⟨k, q, by omega, by omega, by go_num, rfl, HQ, WK9⟩
                  case measure => simp [intOf]; (try omega)
          · have hml : m = lo := by omega
            have HML := Lib.hid hml
            have hno : ¬ lz ≤ (m : Int) - 1 := by have := HLZ.out; have := HML.out; omega
            have HFI := Lib.hid (HSO.out q (by rw [← hml]; exact HI.out))
            clear hml
            have hq0 : q = -1 ∨ 0 ≤ q := by rcases HI.out with ⟨h, _⟩ | ⟨p, h, _⟩ <;> omega
            have HQ0 := Lib.hid hq0
            have hq6 : q ≤ 1000000 := by have := isp_le HI.out; omega
            clear hm1 hm2 hgo hlh hhM2 heo6 b6
            have hmm : (m : Int) - 1 = -1 ∨ ∃ k : Nat, (m : Int) - 1 = (k : Int) := by
              by_cases h : m = 0
              · left; omega
              · right; exact ⟨m - 1, by omega⟩
            obtain ⟨mz, hmz⟩ : ∃ q : Int, q = (m : Int) - 1 := ⟨_, rfl⟩
            rw [← hmz] at hmm hno ⊢
            clear hmz HML
            have hnd : decide (lz ≤ mz) = false := by simp; omega
            clear hno
            rcases hmm with rfl | ⟨k, rfl⟩
            all_goals
              clear hq0 y4
              have y4 := GI.out.cell d4 (by simp)
              by_cases hq : q < 0
              · have hq1 : q = -1 := by have := HQ0.out; omega
                subst hq1
                clear hq hq6 HQ0
                go_wp2_with (first | (go_at_call 25; refine (BB.out _ (by refine Hid.out ?_; assumption)).mono ?_; rintro r u6 ⟨rfl, g6⟩) | go_in)
                go_ret2
                exact ⟨f, HF, gb_trans G3.out (gb_trans GI.out g6.out), .inl ⟨i, oa, oc, rfl, HIT.out, HFI.out, HB.out⟩⟩
              · have HFQ := Lib.hid (show f i ≠ -1 by have := HFI.out; have := HQ0.out; omega)
                have hqd : decide (q < 0) = false := by simp; omega
                clear HQ0 hq
                go_wp2_with (first | (go_at_call 25; refine (BB.out _ (by refine Hid.out ?_; assumption)).mono ?_; rintro r u6 ⟨rfl, g6⟩; have WG := Lib.hid (gb_trans GW.out g6.out); have RO6 := Lib.hid (ownsRow_keep RO.out (fun k e => WG.out.block k (RO.out.lt k e).2 (by simp)))) | (at_builtin; go_loud (refine wpList_append_at _ rfl (.tmp 78) (.tmp 80) 25 rfl u3.heap.size 3 i0 (.int .i64 0) 1 8 Try.underlying25 hi9.out hz0.out hz1.out hz2.out rfl (by decide) (.slice oa i oc) i ((List.range i).map fun j => .int .i64 (f j)) rfl (RO6.out.alloc _) ⟨u6.heap.size, 0, none⟩ 1 1 [.int .i64 q] rfl rfl (new_cells _ _ _) (by intro u hu; simp at hu; subst hu; rfl) (by unfold maxLen; omega) (by omega) (by have := (gb_trans G.out WG.out).size; simp; omega) (by decide) ?_); intro g' c' w1 ho1 hg1 hv1; have HO := Lib.hid ho1; have HG := Lib.hid hg1; clear ho1 hg1 hv1) | go_in)
                go_roundw
                case rel => exact ⟨i + 1, _, _, by omega, by go_num, rfl, by have := HO.out; rw [← HFI.out] at this; rw [List.range_succ, List.map_append]; exact this, fun j hj => by by_cases hji : j = i; (· rw [hji]; exact HFQ.out); (· exact HB.out j (by omega)), gb_overO (gb_trans (gb_trans G.out WG.out) (World.grownBy_alloc _ _ none)) HG.out (by intro k e; exact (RO6.out.lt k e).1)⟩
                case measure => simp [intOf]; (try omega)
    · obtain rfl : i = ys.length := by omega
      go_wp2
      go_ret2
      refine ⟨f, HF, gb_trans G3.out G.out, .inr ⟨by show ∀ _, _; rw [← HYL.out]; exact HB.out, oa, oc, by rw [← HYL.out]; rfl, ?_⟩⟩
      rw [← HYL.out]
      exact IsNums.of_own RO.out
end Go.Proofs.Ytkidkhjpijjphaa.oq

/- The document's order of tries, in plain numbers: rank by rank. Of no program, and of no memory. -/
namespace Go.Proofs.Ytkidkhjpijjphaa.base
open Go
set_option linter.unusedVariables false
set_option linter.unusedSimpArgs false

/-- Those of a rank among the first i. -/
def ofRk (ts : List Tr) (f : Nat → Int) (r i : Nat) : List It := (itsN ts f i).filter fun a => decide (a.rk = (r : Int))

/-- Those of the first ranks, rank by rank. -/
def docOrd (ts : List Tr) (f : Nat → Int) : Nat → List It
  | 0 => []
  | R + 1 => docOrd ts f R ++ ofRk ts f R ts.length

theorem ofRk_succ (ts : List Tr) (f : Nat → Int) (r : Nat) {k : Nat} {t : Tr} (ht : ts[k]? = some t) : ofRk ts f r (k + 1) = ofRk ts f r k ++ (if (⟨k, f k, t.co⟩ : It).rk = (r : Int) then [⟨k, f k, t.co⟩] else []) := by
  unfold ofRk
  rw [itsN_succ ts f ht, List.filter_append]
  congr 1
  split
  · next h => rw [List.filter_cons_of_pos (by simpa using h), List.filter_nil]
  · next h => rw [List.filter_cons_of_neg (by simpa using h), List.filter_nil]
theorem ofRk_zero (ts : List Tr) (f : Nat → Int) (r : Nat) : ofRk ts f r 0 = [] := rfl

theorem filter_two {α : Type} (p q : α → Bool) (h : ∀ a, ¬ (p a = true ∧ q a = true)) : ∀ l : List α, (l.filter p ++ l.filter q).Perm (l.filter fun a => p a || q a)
  | [] => List.Perm.refl _
  | a :: l => by
    have ih := filter_two p q h l
    cases hp : p a with
    | true =>
      have hq : q a = false := by
        cases hq : q a with
        | false => rfl
        | true => exact absurd ⟨hp, hq⟩ (h a)
      rw [List.filter_cons_of_pos hp, List.filter_cons_of_neg (by simp [hq]), List.filter_cons_of_pos (by simp [hp]), List.cons_append]
      exact ih.cons a
    | false =>
      cases hq : q a with
      | true =>
        rw [List.filter_cons_of_neg (by simp [hp]), List.filter_cons_of_pos hq, List.filter_cons_of_pos (by simp [hq])]
        exact List.perm_middle.trans (ih.cons a)
      | false =>
        rw [List.filter_cons_of_neg (by simp [hp]), List.filter_cons_of_neg (by simp [hq]), List.filter_cons_of_neg (by simp [hp, hq])]
        exact ih

theorem itsN_all (ts : List Tr) (f : Nat → Int) : itsN ts f ts.length = itsOf ts f := rfl
theorem docOrd_perm (ts : List Tr) (f : Nat → Int) (h0 : ∀ a ∈ itsOf ts f, 0 ≤ a.rk) : ∀ R : Nat, (docOrd ts f R).Perm ((itsOf ts f).filter fun a => decide (a.rk < (R : Int)))
  | 0 => by
    rw [List.filter_eq_nil_iff.2 (fun a ha => by have := h0 a ha; simp; omega)]
    exact List.Perm.refl _
  | R + 1 => by
    have ih := docOrd_perm ts f h0 R
    rw [docOrd]
    refine (ih.append_right _).trans ?_
    unfold ofRk
    rw [itsN_all]
    refine (filter_two _ _ (fun a h => by simp at h; omega) _).trans ?_
    rw [show (fun a : It => decide (a.rk < (R : Int)) || decide (a.rk = (R : Int))) = fun a => decide (a.rk < ((R + 1 : Nat) : Int)) from ?_]
    funext a
    rw [← Bool.decide_or]
    congr 1
    apply propext
    omega

theorem itsN_pw (ts : List Tr) (f : Nat → Int) (i : Nat) : (itsN ts f i).Pairwise (fun a b => a.no < b.no) := by
  unfold itsN
  rw [List.pairwise_map]
  exact List.pairwise_lt_range
theorem docOrd_rk (ts : List Tr) (f : Nat → Int) (h0 : ∀ a ∈ itsOf ts f, 0 ≤ a.rk) (R : Nat) : ∀ a ∈ docOrd ts f R, a.rk < (R : Int) := fun a ha => by
  have := (docOrd_perm ts f h0 R).mem_iff.1 ha
  rw [List.mem_filter] at this
  simpa using this.2
theorem docOrd_pw (ts : List Tr) (f : Nat → Int) (h0 : ∀ a ∈ itsOf ts f, 0 ≤ a.rk) : ∀ R : Nat, (docOrd ts f R).Pairwise It.le
  | 0 => List.Pairwise.nil
  | R + 1 => by
    rw [docOrd]
    have hr : ∀ a ∈ ofRk ts f R ts.length, a.rk = (R : Int) := fun a ha => by
      unfold ofRk at ha
      rw [List.mem_filter] at ha
      simpa using ha.2
    refine List.pairwise_append.2 ⟨docOrd_pw ts f h0 R, ?_, fun a ha b hb => ?_⟩
    · have hp : (ofRk ts f R ts.length).Pairwise (fun a b => a.no < b.no) := (itsN_pw ts f ts.length).filter _
      refine hp.imp_of_mem ?_
      intro a b ha hb h
      have h1 := hr a ha
      have h2 := hr b hb
      exact .inr ⟨by omega, by omega⟩
    · have h1 := docOrd_rk ts f h0 R a ha
      have h2 := hr b hb
      exact .inl (by omega)
theorem docOrd_ordered (ts : List Tr) (f : Nat → Int) (R : Nat) (h0 : ∀ a ∈ itsOf ts f, 0 ≤ a.rk ∧ a.rk < (R : Int)) : Ordered ts f (docOrd ts f R) := by
  have hp := docOrd_perm ts f (fun a ha => (h0 a ha).1) R
  rw [List.filter_eq_self.2 (fun a ha => by simpa using (h0 a ha).2)] at hp
  exact ⟨hp, docOrd_pw ts f (fun a ha => (h0 a ha).1) R⟩
theorem docOrd_len (ts : List Tr) (f : Nat → Int) (h0 : ∀ a ∈ itsOf ts f, 0 ≤ a.rk) (R : Nat) : (docOrd ts f R).length ≤ ts.length := by
  rw [(docOrd_perm ts f h0 R).length_eq]
  refine Nat.le_trans (List.length_filter_le _ _) ?_
  simp [itsOf]
end Go.Proofs.Ytkidkhjpijjphaa.base
namespace Go.Proofs.Ytkidkhjpijjphaa.oq
open Go Go.RowKit Go.Proofs.Ytkidkhjpijjphaa.base Go.Proofs.Ytkidkhjpijjphaa.hs Go.Proofs.Ytkidkhjpijjphaa.md

/-- The ranks of what is seen. -/
theorem rk_lt {e : Evs} {n len : Nat} {S : Nat → Nat → Int} {f : Nat → Int} (hr : right e len = true) (h : Sees e n len S f) (hall : ∀ j, j < (tries e len).length → f j ≠ -1) : ∀ a ∈ itsOf (tries e len) f, 0 ≤ a.rk ∧ a.rk < ((2 * (tries e len).length + 2 : Nat) : Int) := by
  intro a ha
  unfold itsOf at ha
  obtain ⟨k, hk, rfl⟩ := List.mem_map.1 ha
  have hk' := List.mem_range.1 hk
  have hw := seen_within hr h (List.getElem?_eq_getElem hk') (hall k hk')
  have hm := before_mono e hw.2.2.2.1
  have hb : before e len ≤ (tries e len).length := by
    rw [← comms_before e hr]
    exact List.length_filter_le _ _
  unfold It.rk
  dsimp only
  split <;> omega
theorem seen_num {e : Evs} {n len : Nat} {S : Nat → Nat → Int} {f : Nat → Int} (hr : right e len = true) (h : Sees e n len S f) (hall : ∀ j, j < (tries e len).length → f j ≠ -1) : ∀ j, j < (tries e len).length → 0 ≤ f j ∧ f j ≤ ((tries e len).length : Int) := by
  intro k hk'
  have hw := seen_within hr h (List.getElem?_eq_getElem hk') (hall k hk')
  have hm := before_mono e hw.2.2.2.1
  have hb : before e len ≤ (tries e len).length := by
    rw [← comms_before e hr]
    exact List.length_filter_le _ _
  omega
end Go.Proofs.Ytkidkhjpijjphaa.oq

/- The document's own answer for package opaque: quarrelref19.Order; and traces that aren't right. -/
namespace Go.Proofs.Ytkidkhjpijjphaa.oq
open Go Go.RowKit Go.Proofs.Ytkidkhjpijjphaa.base Go.Proofs.Ytkidkhjpijjphaa.hs Go.Proofs.Ytkidkhjpijjphaa.lg Go.Proofs.Ytkidkhjpijjphaa.md
set_option linter.unusedVariables false
set_option linter.unusedSimpArgs false
set_option maxRecDepth 100000

theorem itsOf_congr {ts : List Tr} {f g : Nat → Int} (h : ∀ j, j < ts.length → f j = g j) : itsOf ts f = itsOf ts g := by
  unfold itsOf
  refine List.map_congr_left fun k hk => ?_
  rw [h k (List.mem_range.1 hk)]
theorem Ordered.congr {ts : List Tr} {f g : Nat → Int} {xs : List It} (h : Ordered ts f xs) (hfg : ∀ j, j < ts.length → f j = g j) : Ordered ts g xs := by
  unfold Ordered at h ⊢
  rwa [itsOf_congr hfg] at h
theorem nos_nums {w : World} {base : Nat} {oa : Option Addr} {oc : Nat} {xs : List It} (h : w.ownsRow base 3 1 (.slice oa xs.length oc) xs.length (xs.map noV)) : IsNums .i64 w oa xs.length (fun i => ((xs.getD i default).no : Int)) := by
  refine IsNums.of_own (base := base) (e := 3) (cap := oc) ?_
  have e : (List.range xs.length).map (fun i => Value.int .i64 ((xs.getD i default).no : Int)) = xs.map noV := by
    apply List.ext_getElem
    · simp
    · intro i h1 h2
      simp at h1 h2
      simp [noV, h2]
  rw [e]
  exact h

set_option maxHeartbeats 1000000 in
theorem refseen_wrong (a1 : Option Addr) (n c1 : Nat) (a2 : Option Addr) (len cap : Nat) (e : Evs) (w : World) (hl : IsEvs w a2 len e) (hr : right e len = false) (hlen : len ≤ 1000) :
    Calls Try.prog 9 #[.slice a1 n c1, .slice a2 len cap] w fun r w' => r = .returned (.tuple #[.slice none 0 0, .int .i64 3]) ∧ Hid (w.grownBy w' none) := by
  have HR := Lib.hid (right_doc a2 len cap e w hl (by omega))
  rw [hr] at HR
  clear hl hr
  go_enter Try.func9, Try.ntmps9
  go_wp2_with fail
  refine HR.out.mono ?_
  rintro r u1 ⟨rfl, g1⟩
  go_wp2
  go_ret2
  exact ⟨rfl, g1⟩

set_option maxHeartbeats 4000000 in
theorem reforder_any (a1 : Option Addr) (n c1 : Nat) (z : Nat → Int) (a2 : Option Addr) (len cap : Nat) (e : Evs) (f0 : Nat → Int) (w : World) (hz : IsNums .i64 w a1 n z) (hl : IsEvs w a2 len e) (hr : right e len = true) (hlen : len ≤ 1000) (hn : n ≤ 1000) (hf0 : Sees e n len (fun k => stAt z (cacs e len) k) f0) (hall0 : ∀ j, j < (tries e len).length → f0 j ≠ -1) :
    Calls Try.prog 14 #[.slice a1 n c1, .slice a2 len cap] w fun r w' => ∃ oa oc xs, r = .returned (.slice oa xs.length oc) ∧ Hid (Ordered (tries e len) f0 xs) ∧ Hid (IsNums .i64 w' oa xs.length (fun i => ((xs.getD i default).no : Int))) ∧ Hid (w.grownBy w' none) := by
  have HZ := Lib.hid hz
  have HL := Lib.hid hl
  have HR := Lib.hid hr
  have HF0 := Lib.hid hf0
  have HALL0 := Lib.hid hall0
  obtain ⟨i0, hi0, hz00, hz10, hz20⟩ := info_parts infoInt3
  have hi9 := Lib.hid hi0
  have hz0 := Lib.hid hz00
  have hz1 := Lib.hid hz10
  have hz2 := Lib.hid hz20
  clear hi0 hz00 hz10 hz20
  have HTN := Lib.hid (tries_n e len)
  clear hz hl hr hf0 hall0
  go_enter Try.func14, Try.ntmps14
  go_wp2_with fail
  refine (refseen_right a1 n c1 z a2 len cap e _ HZ.out HL.out HR.out hlen hn).mono ?_
  rintro r u1 ⟨f, hf, g1, ⟨k, oa, oc, rfl, hk⟩ | ⟨hall, sa, sc, rfl, hs⟩⟩
  · exact (HF0.out.both hf.out HALL0.out hk.out).elim
  go_wp2_with fail
  refine (tries_doc a2 len cap e _ (HL.out.grown g1.out) HR.out (by omega)).mono ?_
  rintro r u2 ⟨ta, tc, ys, rfl, TA, TY, g2⟩
  have G2 := Lib.hid (gb_trans g1.out g2.out)
  have hyl : ys.length = (tries e len).length := by rw [← TY.out, List.length_map]
  have HYL := Lib.hid hyl
  have hyl6 : (ys.length : Int) ≤ 1000 := by have h2 := HTN.out; omega
  have SP := Lib.hid (hs.out.grown g2.out)
  rw [← hyl] at SP ⊢
  have SN := Lib.hid (seen_num HR.out hf.out hall.out)
  have RK := Lib.hid (docOrd_ordered _ _ _ (rk_lt HR.out hf.out hall.out))
  have RK0 := Lib.hid (fun a ha => ((rk_lt HR.out hf.out hall.out) a ha).1)
  have FF := Lib.hid (hf.out.one HF0.out)
  clear g1 g2 hs hall hf hyl
  obtain ⟨ts, hts⟩ : ∃ ts, ts = tries e len := ⟨_, rfl⟩
  rw [← hts] at RK RK0 TY HYL SN FF
  have HTS := Lib.hid hts
  clear hts
  go_wp2_with fail
  go_loopw [8, 9] (fun ov rv wr => ∃ (R : Nat) (oa : Option Addr) (oc : Nat) (X : List It), R ≤ 2 * ys.length + 2 ∧ rv = .int .i64 R ∧ ov = .slice oa X.length oc ∧ Hid (X = docOrd ts f R) ∧ Hid (wr.ownsRow u2.heap.size 3 1 (.slice oa X.length oc) X.length (X.map noV)) ∧ Hid (u2.grownBy wr none)) (fun _ rv _ => (2 * ys.length + 2 - intOf rv).toNat)
  case atStart => exact ⟨0, none, 0, [], by omega, rfl, rfl, rfl, World.ownsRow_nil _ _ _ _, gb_refl _ _⟩
  case round =>
    obtain ⟨R, oa, oc, X, hR, rfl, rfl, HX, RO, G⟩ := hrel
    have hX6 : X.length ≤ 1000 := by
      have h1 := docOrd_len ts f RK0.out R
      have h2 := HX.out
      have h3 := HYL.out
      rw [h2]
      omega
    have hy2 : ((ys.length : Int) * 2) ≤ 2000 := by omega
    by_cases hlt : R < 2 * ys.length + 2
    · have hle : (R : Int) ≤ 2 * (ys.length : Int) + 1 := by omega
      have hR6 : (R : Int) ≤ 1000000 := by omega
      go_wp2_with fail
      have HX0 := Lib.hid (show X = docOrd ts f R ++ ofRk ts f R 0 by rw [ofRk_zero, List.append_nil]; exact HX.out)
      go_loopw [8, 10] (fun ov iv wr => ∃ (i : Nat) (oa : Option Addr) (oc : Nat) (Y : List It), i ≤ ys.length ∧ iv = .int .i64 i ∧ ov = .slice oa Y.length oc ∧ Hid (Y = docOrd ts f R ++ ofRk ts f R i) ∧ Hid (wr.ownsRow u2.heap.size 3 1 (.slice oa Y.length oc) Y.length (Y.map noV)) ∧ Hid (u2.grownBy wr none)) (fun _ iv _ => (ys.length - intOf iv).toNat)
      case atStart => exact ⟨0, oa, oc, X, by omega, rfl, rfl, HX0, RO, G⟩
      case round =>
        clear HX0 HX RO G hX6
        obtain ⟨i, oa, oc, Y, hi, rfl, rfl, HY, RO, G⟩ := hrel
        by_cases hil : i < ys.length
        · have hil' : (i : Int) < (ys.length : Int) := by omega
          have hi6 : (i : Int) < 1000000 := by omega
          have hgi := List.getElem?_eq_getElem hil
          have hti : ts[i]? = some ys[i].1 := by rw [← TY.out, List.getElem?_map, hgi]; rfl
          obtain ⟨tb, off, va, vc, rfl, htb, hv, hl, d0, d1, d2, d3, d4, d5, d6, d7, d8⟩ := (TA.out.grown G.out).at hgi
          obtain ⟨pb, po, rfl, hpb, cp⟩ := (SP.out.grown G.out).at1 hil
          have hfn := SN.out i (by rw [← HYL.out]; exact hil)
          have hY6 : Y.length ≤ 3000 := by
            have h1 := docOrd_len ts f RK0.out R
            have h2 : (ofRk ts f R i).length ≤ i := by unfold ofRk; refine Nat.le_trans (List.length_filter_le _ _) ?_; rw [itsN_len]; exact Nat.le_refl _
            have h3 := HYL.out
            rw [HY.out, List.length_append]
            omega
          have hf0 := hfn.1
          have hf1 : f i ≤ 1000 := by have h1 := hfn.2; have h2 := HYL.out; omega
          clear hfn
          generalize ys[i].1 = t at *
          have HT := Lib.hid hti
          have HRKD : Hid ((⟨i, f i, t.co⟩ : It).rk = 2 * f i + (if t.co = true then 1 else 0)) := rfl
          clear hgi hti hv hl d0 d1 d2 d3 d4 d5 d6 d8
          cases hc : t.co with
          | true =>
            rw [hc] at d7
            by_cases hk : 2 * f i + 1 = (R : Int)
            · have HRK := Lib.hid (show (⟨i, f i, t.co⟩ : It).rk = (R : Int) by rw [HRKD.out, hc, if_pos rfl]; exact hk)
              have hkb : (2 * f i + 1 == (R : Int)) = true := by simp [hk]
              clear hc hk HRKD
              obtain ⟨fi, hfi⟩ : ∃ q, q = f i := ⟨_, rfl⟩
              rw [← hfi] at cp hf0 hf1 hkb
              clear hfi
              go_wp2_with (first | (at_builtin; go_loud (refine wpList_append_at _ rfl (.tmp 49) (.tmp 51) 25 rfl u2.heap.size 3 i0 (.int .i64 0) 1 8 Try.underlying25 hi9.out hz0.out hz1.out hz2.out rfl (by decide) (.slice oa Y.length oc) Y.length (Y.map noV) rfl (RO.out.alloc _) ⟨wr.heap.size, 0, none⟩ 1 1 [.int .i64 i] rfl rfl (new_cells _ _ _) (by intro u hu; simp at hu; subst hu; rfl) (by unfold maxLen; omega) (by omega) (by have := G.out.size; simp; omega) (by decide) ?_); intro g' c' w1 ho1 hg1 hv1; have HO := Lib.hid ho1; have HG := Lib.hid hg1; clear ho1 hg1 hv1) | go_in); go_roundw; (case rel => exact ⟨i + 1, _, _, Y ++ [⟨i, f i, t.co⟩], by omega, by go_num, by rw [List.length_append]; rfl, (by have := HY.out; show Y ++ _ = _; rw [ofRk_succ _ _ _ HT.out, if_pos HRK.out, this, List.append_assoc]), (by have := HO.out; rw [List.length_append, List.map_append]; exact this), gb_overO (gb_trans G.out (World.grownBy_alloc _ _ none)) HG.out (by intro k e; exact (RO.out.lt k e).1)⟩); (case measure => simp [intOf]; (try omega))
            · have HRK := Lib.hid (show ¬ (⟨i, f i, t.co⟩ : It).rk = (R : Int) by rw [HRKD.out, hc, if_pos rfl]; exact hk)
              have hkb : (2 * f i + 1 == (R : Int)) = false := by simp [hk]
              clear hc hk HRKD
              obtain ⟨fi, hfi⟩ : ∃ q, q = f i := ⟨_, rfl⟩
              rw [← hfi] at cp hf0 hf1 hkb
              clear hfi
              go_wp2; go_roundw; (case rel => exact ⟨i + 1, _, _, Y, by omega, by go_num, rfl, (by have := HY.out; show Y = _; rw [ofRk_succ _ _ _ HT.out, if_neg HRK.out, List.append_nil]; exact this), RO, G⟩); (case measure => simp [intOf]; (try omega))
          | false =>
            rw [hc] at d7
            by_cases hk : 2 * f i = (R : Int)
            · have HRK := Lib.hid (show (⟨i, f i, t.co⟩ : It).rk = (R : Int) by rw [HRKD.out, hc, if_neg (by simp), Int.add_zero]; exact hk)
              have hkb : (2 * f i == (R : Int)) = true := by simp [hk]
              clear hc hk HRKD
              obtain ⟨fi, hfi⟩ : ∃ q, q = f i := ⟨_, rfl⟩
              rw [← hfi] at cp hf0 hf1 hkb
              clear hfi
              go_wp2_with (first | (at_builtin; go_loud (refine wpList_append_at _ rfl (.tmp 49) (.tmp 51) 25 rfl u2.heap.size 3 i0 (.int .i64 0) 1 8 Try.underlying25 hi9.out hz0.out hz1.out hz2.out rfl (by decide) (.slice oa Y.length oc) Y.length (Y.map noV) rfl (RO.out.alloc _) ⟨wr.heap.size, 0, none⟩ 1 1 [.int .i64 i] rfl rfl (new_cells _ _ _) (by intro u hu; simp at hu; subst hu; rfl) (by unfold maxLen; omega) (by omega) (by have := G.out.size; simp; omega) (by decide) ?_); intro g' c' w1 ho1 hg1 hv1; have HO := Lib.hid ho1; have HG := Lib.hid hg1; clear ho1 hg1 hv1) | go_in); go_roundw; (case rel => exact ⟨i + 1, _, _, Y ++ [⟨i, f i, t.co⟩], by omega, by go_num, by rw [List.length_append]; rfl, (by have := HY.out; show Y ++ _ = _; rw [ofRk_succ _ _ _ HT.out, if_pos HRK.out, this, List.append_assoc]), (by have := HO.out; rw [List.length_append, List.map_append]; exact this), gb_overO (gb_trans G.out (World.grownBy_alloc _ _ none)) HG.out (by intro k e; exact (RO.out.lt k e).1)⟩); (case measure => simp [intOf]; (try omega))
            · have HRK := Lib.hid (show ¬ (⟨i, f i, t.co⟩ : It).rk = (R : Int) by rw [HRKD.out, hc, if_neg (by simp), Int.add_zero]; exact hk)
              have hkb : (2 * f i == (R : Int)) = false := by simp [hk]
              clear hc hk HRKD
              obtain ⟨fi, hfi⟩ : ∃ q, q = f i := ⟨_, rfl⟩
              rw [← hfi] at cp hf0 hf1 hkb
              clear hfi
              go_wp2; go_roundw; (case rel => exact ⟨i + 1, _, _, Y, by omega, by go_num, rfl, (by have := HY.out; show Y = _; rw [ofRk_succ _ _ _ HT.out, if_neg HRK.out, List.append_nil]; exact this), RO, G⟩); (case measure => simp [intOf]; (try omega))
        · obtain rfl : i = ys.length := by omega
          go_wp2
          go_roundw
          case rel => exact ⟨R + 1, oa, oc, Y, by omega, by go_num, rfl, (by have := HY.out; show Y = _; rw [docOrd, ← HYL.out]; exact this), RO, G⟩
          case measure => simp [intOf]; (try omega)
    · have hRe : R = 2 * ys.length + 2 := by omega
      have HRE := Lib.hid (show R = 2 * ts.length + 2 by rw [← HYL.out]; exact hRe)
      have hnl : decide ((R : Int) ≤ 2 * (ys.length : Int) + 1) = false := by simp; omega
      clear hRe
      go_wp2
      go_ret
      exact ⟨oa, oc, X, rfl, (by rw [← HTS.out]; exact Ordered.congr (by rw [HX.out, HRE.out]; exact RK.out) FF.out), nos_nums RO.out, gb_trans G2.out G.out⟩
end Go.Proofs.Ytkidkhjpijjphaa.oq

/- A reading of a trace that is changed, in plain numbers: which tries see another one then. Of no program, and of no memory. -/
namespace Go.Proofs.Ytkidkhjpijjphaa.base
open Go Go.Proofs.Ytkidkhjpijjphaa.md
set_option linter.unusedVariables false
set_option linter.unusedSimpArgs false

/-- The value of one event is another one. -/
def spEv (e : Evs) (pl : Nat) (tv : Int) : Evs := fun i => if i = pl then { e i with va := tv } else e i
def spA (pl : Nat) (tv : Int) (a : Acc) : Acc := if a.pl = (pl : Int) then { a with va := tv } else a
def spT (pl : Nat) (tv : Int) (t : Tr) : Tr := { t with ac := t.ac.map (spA pl tv) }

section
variable (e : Evs) (pl : Nat) (tv : Int)
theorem sp_k (i : Nat) : (spEv e pl tv i).k = (e i).k := by unfold spEv; split <;> rfl
theorem sp_th (i : Nat) : (spEv e pl tv i).th = (e i).th := by unfold spEv; split <;> rfl
theorem sp_tx (i : Nat) : (spEv e pl tv i).tx = (e i).tx := by unfold spEv; split <;> rfl
theorem sp_at (i : Nat) : (spEv e pl tv i).at_ = (e i).at_ := by unfold spEv; split <;> rfl
theorem sp_ob (i : Nat) : (spEv e pl tv i).ob = (e i).ob := by unfold spEv; split <;> rfl
theorem sp_re (i : Nat) : (spEv e pl tv i).re = (e i).re := by unfold spEv; split <;> rfl
theorem sp_no {i : Nat} (h : i ≠ pl) : spEv e pl tv i = e i := by unfold spEv; rw [if_neg h]

theorem opn_sp : ∀ (i : Nat) (th : Int), opn (spEv e pl tv) i th = opn e i th
  | 0, _ => rfl
  | i + 1, th => by
    unfold opn
    rw [sp_th, sp_k, opn_sp i th]
theorem cnt_sp : ∀ (i : Nat) (th tx : Int), cnt (spEv e pl tv) i th tx = cnt e i th tx
  | 0, _, _ => rfl
  | i + 1, th, tx => by
    unfold cnt
    rw [sp_th, sp_k, sp_tx, sp_at, cnt_sp i th tx]
theorem may_sp (i : Nat) : may (spEv e pl tv) i = may e i := by
  unfold may
  rw [opn_sp, sp_th]
  simp only [sp_k, sp_at, sp_tx, sp_th, cnt_sp]
theorem right_sp : ∀ n : Nat, right (spEv e pl tv) n = right e n
  | 0 => rfl
  | n + 1 => by rw [right, right, right_sp n, may_sp]
theorem before_sp : ∀ n : Nat, before (spEv e pl tv) n = before e n
  | 0 => rfl
  | n + 1 => by rw [before, before, before_sp n, sp_k]
theorem begins_sp (n : Nat) : begins (spEv e pl tv) n = begins e n := by
  unfold begins
  simp only [sp_k]
end

theorem spA_k (pl : Nat) (tv : Int) (a : Acc) : (spA pl tv a).k = a.k := by unfold spA; split <;> rfl
theorem spA_ob (pl : Nat) (tv : Int) (a : Acc) : (spA pl tv a).ob = a.ob := by unfold spA; split <;> rfl
theorem wrote_sp (pl : Nat) (tv : Int) (l : List Acc) (o : Int) : wrote (l.map (spA pl tv)) o = wrote l o := by
  unfold wrote
  rw [List.any_map]
  congr 1
  funext a
  simp only [Function.comp, spA_k, spA_ob]
theorem free_sp (pl : Nat) (tv : Int) (o : Int) (a : Acc) : Acc.free o (spA pl tv a) = spA pl tv (Acc.free o a) := by
  unfold Acc.free
  rw [spA_k, spA_ob]
  unfold spA
  by_cases h1 : a.pl = (pl : Int) <;> by_cases h2 : a.k = 2 ∧ a.ob = o <;> simp [h1, h2]

theorem stepT_sp {e : Evs} {pl : Nat} {tv : Int} (hk : (e pl).k = 2) (t : Tr) (i : Nat) : stepT (spT pl tv t) i (spEv e pl tv i) = spT pl tv (stepT t i (e i)) := by
  by_cases hi : i = pl
  · subst hi
    unfold stepT
    rw [sp_k, if_pos hk, if_pos hk]
    unfold spT
    simp only [List.map_append, List.map_cons, List.map_nil, wrote_sp, sp_ob]
    simp [spA, spEv]
  · rw [sp_no e pl tv hi]
    have hi' : ¬ (i : Int) = (pl : Int) := by omega
    unfold stepT
    by_cases h2 : (e i).k = 2
    · simp only [h2, if_true, spT, List.map_append, List.map_cons, List.map_nil, wrote_sp]
      simp [spA, hi']
    by_cases h3 : (e i).k = 3
    · simp only [h3, spT]
      simp [spA, hi']
    by_cases h4 : (e i).k = 4
    · simp only [h4, spT, relAll]
      simp [List.map_map, Function.comp_def, free_sp]
    by_cases h5 : (e i).k = 5
    · simp [h5, spT]
    by_cases h6 : (e i).k = 6
    · simp [h6, spT]
    simp [h2, h3, h4, h5, h6]

theorem trAt_sp {e : Evs} {pl : Nat} {tv : Int} (hk : (e pl).k = 2) {b : Nat} (hb : b ≠ pl) : ∀ i : Nat, trAt (spEv e pl tv) b i = spT pl tv (trAt e b i)
  | 0 => by
    rw [trAt, trAt, sp_no e pl tv hb]
    rfl
  | i + 1 => by
    have ih := trAt_sp (tv := tv) hk hb i
    rw [trAt, trAt, ih, sp_th, sp_th]
    have e1 : (spT pl tv (trAt e b i)).en = (trAt e b i).en := rfl
    rw [e1]
    split
    · exact stepT_sp hk _ _
    · rfl
theorem tries_sp {e : Evs} {pl : Nat} {tv : Int} (hk : (e pl).k = 2) (n : Nat) : tries (spEv e pl tv) n = (tries e n).map (spT pl tv) := by
  unfold tries
  rw [begins_sp, List.map_map]
  refine List.map_congr_left fun b hb => ?_
  have h1 := ((begins_mem e n b).1 hb).2
  exact trAt_sp hk (fun h => by rw [h, hk] at h1; omega) n
theorem commsD_sp {e : Evs} {pl : Nat} {tv : Int} (hk : (e pl).k = 2) (n : Nat) : commsD (spEv e pl tv) n = (commsD e n).map (spT pl tv) := by
  unfold commsD
  rw [tries_sp hk, List.map_flatMap]
  congr 1
  funext i
  rw [List.filter_map]
  rfl
theorem cacs_sp {e : Evs} {pl : Nat} {tv : Int} (hk : (e pl).k = 2) (n : Nat) : cacs (spEv e pl tv) n = (cacs e n).map (List.map (spA pl tv)) := by
  unfold cacs
  rw [right_sp, commsD_sp hk]
  split
  · rw [List.map_map, List.map_map]
    rfl
  · rfl

theorem app_sp {pl : Nat} {tv : Int} : ∀ (l : List Acc) (z : Nat → Int), (∀ a ∈ l, a.pl = (pl : Int) → a.k ≠ 3) → app z (l.map (spA pl tv)) = app z l
  | [], _, _ => rfl
  | a :: l, z, h => by
    have e1 : app z ((a :: l).map (spA pl tv)) = app (app1 (spA pl tv a) z) (l.map (spA pl tv)) := rfl
    have e2 : app z (a :: l) = app (app1 a z) l := rfl
    have e3 : app1 (spA pl tv a) z = app1 a z := by
      by_cases hp : a.pl = (pl : Int)
      · have := h a (by simp) hp
        rw [app1_no z this, app1_no z (by rw [spA_k]; exact this)]
      · unfold spA
        rw [if_neg hp]
    rw [e1, e2, e3]
    exact app_sp l _ fun b hb => h b (List.mem_cons_of_mem _ hb)
theorem apps_sp {pl : Nat} {tv : Int} : ∀ (c : List (List Acc)) (z : Nat → Int), (∀ l ∈ c, ∀ a ∈ l, a.pl = (pl : Int) → a.k ≠ 3) → (c.map (List.map (spA pl tv))).foldl app z = c.foldl app z
  | [], _, _ => rfl
  | l :: c, z, h => by
    rw [List.map_cons, List.foldl_cons, List.foldl_cons, app_sp l z (h l (by simp))]
    exact apps_sp c _ fun m hm => h m (List.mem_cons_of_mem _ hm)
theorem stAt_sp {pl : Nat} {tv : Int} {c : List (List Acc)} (z : Nat → Int) (h : ∀ l ∈ c, ∀ a ∈ l, a.pl = (pl : Int) → a.k ≠ 3) (k : Nat) : stAt z (c.map (List.map (spA pl tv))) k = stAt z c k := by
  unfold stAt
  rw [← List.map_take]
  exact apps_sp _ z fun l hl => h l (List.mem_of_mem_take hl)

theorem ac_opn {e : Evs} {n b : Nat} (hr : right e n = true) (hk : (e b).k = 1) {a : Acc} (ha : a ∈ (trAt e b n).ac) : ∃ p : Nat, a.pl = (p : Int) ∧ p < n ∧ opn e p (e p).th = some b ∧ (e p).k = a.k := by
  obtain ⟨p, p1, p2, p3, p4, p5, p6, p7, p8⟩ := (acs_ok e b n).1 a ha
  refine ⟨p, p1, p3, ?_, p4⟩
  have hen : (trAt e b p).en < 0 := by
    by_cases h : 0 ≤ (trAt e b p).en
    · have h1 := trAt_end e b h (show p ≤ n by omega)
      rcases (acs_ok e b p).2.2 with h2 | ⟨q, h2, h3⟩
      · omega
      · rw [h1] at p8
        have := p8 h
        omega
    · omega
  rw [p7]
  exact opn_of e (right_le e hr p (by omega)) p2 hk hen
/-- A place is one try's. -/
theorem ac_one {e : Evs} {n b c : Nat} (hr : right e n = true) (hb : (e b).k = 1) (hc : (e c).k = 1) {x y : Acc} (hx : x ∈ (trAt e b n).ac) (hy : y ∈ (trAt e c n).ac) (h : x.pl = y.pl) : b = c := by
  obtain ⟨p, p1, _, p2, _⟩ := ac_opn hr hb hx
  obtain ⟨q, q1, _, q2, _⟩ := ac_opn hr hc hy
  have : p = q := by omega
  subst this
  rw [p2] at q2
  injection q2

theorem cacs_k {e : Evs} {len pl : Nat} (hr : right e len = true) (hk : (e pl).k = 2) : ∀ l ∈ cacs e len, ∀ a ∈ l, a.pl = (pl : Int) → a.k ≠ 3 := by
  intro l hl a ha hp
  unfold cacs at hl
  rw [if_pos hr] at hl
  obtain ⟨t, ht, rfl⟩ := List.mem_map.1 hl
  have ht' := (commsD_perm e hr).mem_iff.1 ht
  rw [List.mem_filter] at ht'
  obtain ⟨b, _, h2, rfl⟩ := (tries_mem e len t).1 ht'.1
  obtain ⟨p, p1, _, _, p2⟩ := ac_opn hr h2 ha
  have : p = pl := by omega
  subst this
  omega
end Go.Proofs.Ytkidkhjpijjphaa.base
namespace Go.Proofs.Ytkidkhjpijjphaa.oq
open Go Go.RowKit Go.Proofs.Ytkidkhjpijjphaa.base Go.Proofs.Ytkidkhjpijjphaa.hs Go.Proofs.Ytkidkhjpijjphaa.md

theorem stAt_spoilt {e : Evs} {len pl : Nat} {tv : Int} (hr : right e len = true) (hk : (e pl).k = 2) (z : Nat → Int) (k : Nat) : stAt z (cacs (spEv e pl tv) len) k = stAt z (cacs e len) k := by
  rw [cacs_sp hk, stAt_sp z (cacs_k hr hk)]

theorem acc_place {e : Evs} {len no : Nat} {t : Tr} {a : Acc} (hr : right e len = true) (ht : (tries e len)[no]? = some t) (ha : a ∈ t.ac) : ∃ p : Nat, a.pl = (p : Int) ∧ p < len := by
  obtain ⟨b, _, rfl, _, _, hbk⟩ := tries_get ht
  obtain ⟨p, p1, p2, _⟩ := ac_opn hr hbk ha
  exact ⟨p, p1, p2⟩

/-- Was there a state of which P tells? -/
def hadB (P : Nat → Bool) : Nat → Bool
  | 0 => false
  | k + 1 => hadB P k || P k
theorem hadB_no {P : Nat → Bool} : ∀ {n : Nat}, hadB P n = false → ∀ k, k < n → P k = false
  | n + 1, h, k, hk => by
    rw [hadB, Bool.or_eq_false_iff] at h
    by_cases e : k = n
    · rw [e]; exact h.2
    · exact hadB_no h.1 k (by omega)

/-- Who read what is changed isn't seen; all others are as they were. -/
theorem spoilt_first {e : Evs} {n len no pl : Nat} {z f g : Nat → Int} {tv : Int} {t : Tr} {a : Acc} (hr : right e len = true) (hf : Sees e n len (fun k => stAt z (cacs e len) k) f) (hall : ∀ j, j < (tries e len).length → f j ≠ -1) (ht : (tries e len)[no]? = some t) (ha : a ∈ t.ac) (hp : a.pl = (pl : Int)) (h2 : a.k = 2) (how : a.own = false) (hre : a.rel = false)
    (hno : ∀ k, k < before e len + 1 → ((stAt z (cacs e len) k a.ob.toNat == tv) && (!t.co || decide (k = before e t.en.toNat))) = false) (hg : Sees (spEv e pl tv) n len (fun k => stAt z (cacs (spEv e pl tv) len) k) g) :
    (tries (spEv e pl tv) len).length = (tries e len).length ∧ no < (tries e len).length ∧ g no = -1 ∧ ∀ j, j < no → g j ≠ -1 := by
  obtain ⟨b, hb, rfl, hb1, hbl, hbk⟩ := tries_get ht
  have hk : (e pl).k = 2 := by
    obtain ⟨p, p1, _, _, p2⟩ := ac_opn hr hbk ha
    have : p = pl := by omega
    subst this
    omega
  have hlen : (tries (spEv e pl tv) len).length = (tries e len).length := by rw [tries_sp hk, List.length_map]
  have hnl := (List.getElem?_eq_some_iff.1 ht).1
  simp only [stAt_spoilt hr hk] at hg
  refine ⟨hlen, hnl, ?_, fun j hj => ?_⟩
  · have hs := hg no (spT pl tv (trAt e b len)) (by rw [tries_sp hk, List.getElem?_map, ht]; rfl)
    have hbad : ∀ k, k < before e len + 1 → ((trAt e b len).co = true → k = before e (trAt e b len).en.toNat) → fits n (stAt z (cacs e len) k) (spT pl tv (trAt e b len)).ac = false := by
      intro k hk1 hk2
      have h3 := hno k hk1
      have h4 : (!(trAt e b len).co || decide (k = before e (trAt e b len).en.toNat)) = true := by
        cases hc : (trAt e b len).co with
        | false => rfl
        | true => simp [hk2 hc]
      rw [h4, Bool.and_true] at h3
      obtain ⟨i, hi⟩ := List.getElem?_of_mem ha
      have hi' : (spT pl tv (trAt e b len)).ac[i]? = some (spA pl tv a) := by
        show ((trAt e b len).ac.map (spA pl tv))[i]? = _
        rw [List.getElem?_map, hi]
        rfl
      refine fits_bad hi' ?_
      have hsp : spA pl tv a = { a with va := tv } := by unfold spA; rw [if_pos hp]
      rw [hsp]
      unfold readOk
      rw [if_pos ⟨h2, hre⟩]
      unfold tellsB
      dsimp only
      rw [how]
      split
      · rfl
      · have : (tv == stAt z (cacs e len) k a.ob.toNat) = false := by
          simp only [beq_eq_false_iff_ne, ne_eq] at h3 ⊢
          exact fun h => h3 h.symm
        rw [this, Bool.and_false]
    have hen : (spT pl tv (trAt e b len)).en = (trAt e b len).en := rfl
    have hco : (spT pl tv (trAt e b len)).co = (trAt e b len).co := rfl
    have hbb : (spT pl tv (trAt e b len)).b = (trAt e b len).b := rfl
    have hee : endOf len (spT pl tv (trAt e b len)) = endOf len (trAt e b len) := rfl
    unfold SeenAt at hs
    rw [hen, hco, hbb, hee] at hs
    simp only [before_sp] at hs
    by_cases hc : (trAt e b len).co = true
    · rw [if_pos hc] at hs
      rw [hs, if_neg]
      rintro ⟨h5, h6⟩
      have h7 := before_mono e (show (trAt e b len).en.toNat ≤ len by omega)
      rw [hbad _ (by omega) (fun _ => rfl)] at h6
      cases h6
    · rw [if_neg hc, if_pos (by omega)] at hs
      rcases hs with ⟨h5, _⟩ | ⟨p, _, _, h5, h6, _⟩
      · exact h5
      · have h7 := before_mono e (show min len (endOf len (trAt e b len)) ≤ len from Nat.min_le_left _ _)
        dsimp only at h6
        rw [hbad p (by omega) (fun h => absurd h hc)] at h6
        cases h6
  · have hjl : j < (tries e len).length := by omega
    have hj1 := List.getElem?_eq_getElem hjl
    have hs := hg j (spT pl tv (tries e len)[j]) (by rw [tries_sp hk, List.getElem?_map, hj1]; rfl)
    have hsame : spT pl tv (tries e len)[j] = (tries e len)[j] := by
      obtain ⟨c, hc, hc1, hc2, hc3, hc4⟩ := tries_get hj1
      have : (tries e len)[j].ac.map (spA pl tv) = (tries e len)[j].ac := by
        have key : ∀ y ∈ (tries e len)[j].ac, spA pl tv y = id y := fun y hy => by
          unfold spA
          by_cases hyp : y.pl = (pl : Int)
          · exfalso
            rw [hc1] at hy
            have := ac_one hr hbk hc4 ha hy (by omega)
            subst this
            have h1 := tries_b_one ht hj1 (by rw [hc1])
            omega
          · rw [if_neg hyp]
            rfl
        exact (List.map_congr_left key).trans (List.map_id _)
      unfold spT
      rw [this]
    rw [hsame] at hs
    unfold SeenAt at hs
    simp only [before_sp] at hs
    rw [SeenAt.one hs (hf j _ hj1)]
    exact hall j hjl
end Go.Proofs.Ytkidkhjpijjphaa.oq

/- A copy of all events, in memory, and one value of it changed. -/
namespace Go.Proofs.Ytkidkhjpijjphaa.oq
open Go Go.RowKit Go.Proofs.Ytkidkhjpijjphaa.base Go.Proofs.Ytkidkhjpijjphaa.hs Go.Proofs.Ytkidkhjpijjphaa.lg Go.Proofs.Ytkidkhjpijjphaa.md
set_option linter.unusedVariables false
set_option linter.unusedSimpArgs false
set_option maxRecDepth 100000

theorem infoEv : (Try.prog.info? 51).map (fun i => (i.zero, i.size, i.bytes)) = some (some (.agg #[.int .i64 0, .int .i64 0, .int .i64 0, .int .i64 0, .int .i64 0, .int .i64 0, .int .i64 0]), 7, 56) := by kernel_rfl

theorem evc_len (e : Ev) : (evc e).length = 7 := rfl

theorem evc_one (x : Ev) : ∀ u ∈ evc x, u.oneCell' = true := by
  intro u hu
  simp [evc] at hu
  rcases hu with rfl | rfl | rfl | rfl | rfl | rfl | rfl <;> rfl

theorem evc_get (x : Ev) : ∀ m : Nat, m < 7 → (evc x)[m]? = some (.int .i64 (Ev.get x m))
  | 0, _ => rfl
  | 1, _ => rfl
  | 2, _ => rfl
  | 3, _ => rfl
  | 4, _ => rfl
  | 5, _ => rfl
  | 6, _ => rfl
  | m + 7, h => by omega

def evL (e : Evs) (n : Nat) : List Ev := (List.range n).map e

theorem evL_len (e : Evs) (n : Nat) : (evL e n).length = n := by simp [evL]

theorem evL_at {e : Evs} {n i : Nat} (h : i < n) : (evL e n)[i]? = some (e i) := by simp [evL, h]

theorem IsEvs.isL {w : World} {a : Option Addr} {n : Nat} {e : Evs} (h : IsEvs w a n e) : IsL evc w a (evL e n) := by
  rcases h with rfl | ⟨b, off, rfl, hb, hc⟩
  · exact .inl rfl
  · refine .inr ⟨b, off, rfl, hb, fun j u hj => ?_⟩
    have hl := (List.getElem?_eq_some_iff.1 hj).1
    rw [rows_length evc_len, evL_len] at hl
    have hi : j / 7 < n := by omega
    have hm : j % 7 < 7 := Nat.mod_lt _ (by omega)
    have hg := rows_get evc_len (evL e n) (j / 7) (j % 7) (e (j / 7)) (evL_at hi) hm
    have h1 := (hc (j / 7) hi).1 (j % 7) hm
    rw [show j / 7 * 7 + j % 7 = j by omega] at hg h1
    rw [hg, evc_get _ _ hm] at hj
    rw [h1, hj]

theorem IsEvs.of_isL {w : World} {a : Option Addr} {n : Nat} {e : Evs} (h : IsL evc w a (evL e n)) (hw : ∀ i, i < n → Ev.Wf (e i)) : IsEvs w a n e := by
  rcases h with h | ⟨b, off, rfl, hb, hc⟩
  · left
    rw [← evL_len e n, h]
    rfl
  · exact .inr ⟨b, off, rfl, hb, fun i hi => ⟨fun j hj => hc _ _ (by rw [rows_get evc_len _ i j (e i) (evL_at hi) hj]; exact evc_get (e i) j hj), hw i hi⟩⟩

theorem evs_set {e : Evs} {pl n : Nat} {tv : Int} (h : pl < n) : (rows evc (evL e n)).set (pl * 7 + 5) (.int .i64 tv) = rows evc (evL (spEv e pl tv) n) := by
  refine rows_ext evc_len (by omega) _ _ (by rw [List.length_set, rows_length evc_len, evL_len, evL_len]) fun j i x hj hi => ?_
  have hjn : j < n := by
    have := (List.getElem?_eq_some_iff.1 hj).1
    rwa [evL_len] at this
  rw [evL_at hjn] at hj
  cases hj
  rw [List.getElem?_set]
  by_cases hji : pl * 7 + 5 = j * 7 + i
  · obtain rfl : pl = j := by omega
    obtain rfl : i = 5 := by omega
    rw [if_pos rfl, if_pos (by rw [rows_length evc_len, evL_len]; omega)]
    simp [spEv, evc]
  · rw [if_neg hji, rows_get evc_len _ j i (e j) (evL_at hjn) hi]
    by_cases hjp : j = pl
    · subst hjp
      have hi5 : i ≠ 5 := by omega
      rw [evc_get _ _ hi, evc_get _ _ hi]
      match i, hi, hi5 with
      | 0, _, _ => rw [Ev.get, Ev.get, sp_k]
      | 1, _, _ => rw [Ev.get, Ev.get, sp_th]
      | 2, _, _ => rw [Ev.get, Ev.get, sp_tx]
      | 3, _, _ => rw [Ev.get, Ev.get, sp_at]
      | 4, _, _ => rw [Ev.get, Ev.get, sp_ob]
      | 6, _, _ => simp only [Ev.get, sp_re]
    · rw [sp_no _ _ _ hjp]

theorem sp_wf {e : Evs} {pl n : Nat} {tv : Int} (hw : ∀ i, i < n → Ev.Wf (e i)) (ht : (Lit.int .i64 tv).wf = true) : ∀ i, i < n → Ev.Wf (spEv e pl tv i) := by
  intro i hi
  have h := hw i hi
  unfold spEv
  split
  · exact ⟨h.k, h.th, h.tx, h.at_, h.ob, ht, h.re⟩
  · exact h

theorem row_addr {w : World} {base : Nat} {e : TypeId} {sz n cap : Nat} {a : Option Addr} {xs : List Value} (h : w.ownsRow base e sz (.slice a n cap) n xs) (hn : 0 < n) : ∃ g, a = some ⟨g, 0, none⟩ ∧ base ≤ g := by
  rcases h.2 with ⟨_, h0⟩ | ⟨g, cap', cur, e1, hb, _⟩
  · omega
  · cases e1
    exact ⟨g, rfl, hb⟩

/-- The copy, with one value changed. -/
theorem evs_changed {w : World} {base g n cap pl : Nat} {e : Evs} {tv : Int} (h : w.ownsRow base 51 7 (.slice (some ⟨g, 0, none⟩) n cap) n (rows evc (evL e n))) (hp : pl < n) (hw : ∀ i, i < n → Ev.Wf (e i)) (ht : (Lit.int .i64 tv).wf = true) :
    IsEvs (w.setCell ⟨g, pl * 7 + 5, none⟩ (.int .i64 tv)) (some ⟨g, 0, none⟩) n (spEv e pl tv) ∧ w.grownBy (w.setCell ⟨g, pl * 7 + 5, none⟩ (.int .i64 tv)) (some g) := by
  have h1 := ownsRow_set h (pl * 7 + 5) (by omega) (.int .i64 tv)
  rw [evs_set hp] at h1
  refine ⟨IsEvs.of_isL (IsL.of_own h1 evc_len (evL_len _ _).symm) (sp_wf hw ht), ?_⟩
  exact gb_setCell (gb_refl w _) rfl _
end Go.Proofs.Ytkidkhjpijjphaa.oq
