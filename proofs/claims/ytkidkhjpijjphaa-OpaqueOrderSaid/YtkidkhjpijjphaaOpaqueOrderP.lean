/-
  OpaqueOrder: the order of an opaque trace has each try once, and respects the time, and done one by one in that order each try fits the values that are there; for any first values and any events.
  Conditions: none (of more than 120 events, of more than 20 values, and of what isn't seen, the law says nothing by itself).
-/
import Derived.Test.YtkidkhjpijjphaaRows
import Derived.Test.YtkidkhjpijjphaaPk
import Derived.Deep.QuietTactic
import Derived.Deep.RegionHeld3
import Derived.BigQuiet
namespace Go.Proofs.Ytkidkhjpijjphaa.opaqueOrder
open Go.ChangeShapes Go.WideShapes Go.ChangeAt Go.RowKit Go.Maps Go.Proofs.Ytkidkhjpijjphaa.base Go.Proofs.Ytkidkhjpijjphaa.hs Go.Proofs.Ytkidkhjpijjphaa.lg Go.Proofs.Ytkidkhjpijjphaa.md Go.Proofs.Ytkidkhjpijjphaa.oq
set_option linter.unusedVariables false
set_option maxRecDepth 100000
set_option linter.unusedSimpArgs false

theorem walk_out (a0 : Option Addr) (len0 cap0 : Nat) (a1 : Option Addr) (len1 cap1 : Nat) (w : World) (h : 120 < (len1 : Int) ∨ 20 < (len0 : Int)) : Calls Try.prog 4 #[.slice a0 len0 cap0, .slice a1 len1 cap1] w fun e w' => e = .returned (.bool true) ∧ Below w.heap.size w w' := by
  by_cases h1 : 120 < (len1 : Int)
  · go_enter Try.func4, Try.ntmps4; go_wp2_with fail; refine (oq.alive_any _).mono ?_; rintro e v1 ⟨rfl, g1⟩; go_wp2; go_ret; exact ⟨rfl, gb_below g1.out⟩
  have q1 : (len1 : Int) ≤ 120 := by omega
  have h2 : 20 < (len0 : Int) := by omega
  go_enter Try.func4, Try.ntmps4; go_wp2_with fail; refine (oq.alive_any _).mono ?_; rintro e v1 ⟨rfl, g1⟩; go_wp2; go_ret; exact ⟨rfl, gb_below g1.out⟩

theorem walk_wrong (a0 : Option Addr) (len0 cap0 : Nat) (a1 : Option Addr) (len1 cap1 : Nat) (e : Evs) (w : World) (h1 : (len1 : Int) ≤ 120) (h0 : (len0 : Int) ≤ 20) (hl : IsEvs w a1 len1 e) (hr : right e len1 = false) : Calls Try.prog 4 #[.slice a0 len0 cap0, .slice a1 len1 cap1] w fun e w' => e = .returned (.bool true) ∧ Below w.heap.size w w' := by
  have HL := Lib.hid hl
  have HR := Lib.hid hr
  clear hl hr
  go_enter Try.func4, Try.ntmps4
  go_wp2_with fail
  refine (oq.alive_any _).mono ?_
  rintro r v1 ⟨rfl, g1⟩
  go_wp2_with fail
  refine (order_wrong a0 len0 cap0 a1 len1 cap1 e _ (HL.out.grown g1.out) HR.out (by omega)).mono ?_
  rintro r v3 ⟨rfl, g3⟩
  go_wp2
  go_ret
  exact ⟨rfl, gb_below (gb_trans g1.out g3.out)⟩

/-- Where the first k of the order stand. -/
def placeV (xs : List It) : Nat → Int → Option Value
  | 0, _ => none
  | k + 1, x => if (xs[k]?).map (fun a => (a.no : Int)) = some x then some (.int .i64 k) else placeV xs k x
theorem placeV_next {xs : List It} {k : Nat} {a : It} (h : xs[k]? = some a) : placeV xs (k + 1) = upd (placeV xs k) (a.no : Int) (some (.int .i64 k)) := by
  funext x
  show (if (xs[k]?).map (fun a => (a.no : Int)) = some x then _ else _) = _
  rw [h]
  unfold upd
  by_cases hx : x = (a.no : Int)
  · subst hx
    simp
  · rw [if_neg hx, if_neg (by simp; exact fun e => hx e.symm)]
theorem placeV_get {xs : List It} (hinj : ∀ (i j : Nat) (a b : It), xs[i]? = some a → xs[j]? = some b → a.no = b.no → i = j) : ∀ (k j : Nat) (a : It), k ≤ xs.length → xs[j]? = some a → placeV xs k (a.no : Int) = if j < k then some (.int .i64 j) else none
  | 0, j, a, _, _ => by simp [placeV]
  | k + 1, j, a, hk, h => by
    have hk' : k < xs.length := by omega
    have hb := List.getElem?_eq_getElem hk'
    rw [placeV_next hb]
    have ih := placeV_get hinj k j a (by omega) h
    by_cases e : j = k
    · subst e
      rw [h] at hb
      cases hb
      simp [upd]
    · have hne : ¬ ((a.no : Int) = (xs[k].no : Int)) := fun e2 => e (hinj j k a xs[k] h hb (by omega))
      unfold upd
      rw [if_neg hne, ih]
      by_cases hj : j < k
      · rw [if_pos hj, if_pos (by omega)]
      · rw [if_neg hj, if_neg (by omega)]
theorem nums_set {P : Program} {κ : Type} {t : TypeId} {kv : κ → Value} {w u : World} {b n m : Nat} {f : κ → Option Value} {a : Option Addr} {z : Nat → Int} (h : MapG P t kv w b n f) (hz : IsNums .i64 w a m z) (g : w.grownBy u (some b)) : IsNums .i64 u a m z := by
  rcases hz with rfl | ⟨c, off, rfl, hc, hcs⟩
  · exact .inl rfl
  by_cases h0 : m = 0
  · exact .inl h0
  have hne : b ≠ c := fun e => by
    subst e
    have h1 := hcs 0 (by omega)
    obtain ⟨D, ⟨es, c, h2, h3⟩, h4⟩ := h
    simp [World.cell?, h2] at h1
  exact .inr ⟨c, off, rfl, Nat.lt_of_lt_of_le hc g.size, fun i hi => g.cell (hcs i hi) (by simpa using fun e => hne e.symm)⟩
theorem zeroI (w : World) : (zeroValue 3).run Try.prog w = .ok (.int .i64 0) w := by kernel_rfl

set_option maxHeartbeats 4000000 in
theorem walk (a0 : Option Addr) (len0 cap0 : Nat) (z0 : Nat → Int) (a1 : Option Addr) (len1 cap1 : Nat) (z1 : Nat → Nat → Int) (w : World) (w0 : IsRow .i64 w a0 len0 cap0 z0) (w1 : IsInts 7 w a1 len1 cap1 z1) : Calls Try.prog 4 #[.slice a0 len0 cap0, .slice a1 len1 cap1] w fun e w' => e = .returned (.bool true) ∧ Below w.heap.size w w' := by
  by_cases hbig : 120 < (len1 : Int) ∨ 20 < (len0 : Int)
  · exact walk_out a0 len0 cap0 a1 len1 cap1 w hbig
  have l0 : (len0 : Int) ≤ 20 := by omega
  have l1 : (len1 : Int) ≤ 120 := by omega
  have HZ := Lib.hid (IsNums.of_row w0)
  have HZW := Lib.hid (row_wf w0)
  have HE := Lib.hid (isEvs_of w1)
  generalize (fun i => (⟨z1 i 0, z1 i 1, z1 i 2, z1 i 3, z1 i 4, z1 i 5, z1 i 6⟩ : Ev)) = e at *
  clear w0 w1 hbig
  cases hr : right e len1 with
  | false => exact walk_wrong a0 len0 cap0 a1 len1 cap1 e w l1 l0 HE.out hr
  | true =>
  have HR := Lib.hid hr
  clear hr
  have HTN := Lib.hid (tries_n e len1)
  have HAW0 := Lib.hid (acs_wf (evs_wf HE.out))
  have hmm := @run_makeMap Try.prog
  go_enter Try.func4, Try.ntmps4
  go_wp2_with fail
  refine (oq.alive_any _).mono ?_
  rintro r v1 ⟨rfl, g1⟩
  have E1 := Lib.hid (HE.out.grown g1.out)
  have Z1 := Lib.hid (HZ.out.grown g1.out)
  go_wp2_with fail
  refine (order_right a0 len0 cap0 z0 a1 len1 cap1 e _ Z1.out HZW.out E1.out HR.out (by omega) (by omega)).mono ?_
  rintro r v3 ⟨f, hf, g3, ⟨k', rfl, hk'⟩ | ⟨hall, ov, xs, rfl, ho, hrow⟩⟩
  · go_wp2
    go_ret
    exact ⟨rfl, gb_below (gb_trans g1.out g3.out)⟩
  have G3 := Lib.hid (gb_trans g1.out g3.out)
  obtain ⟨oa, oc, hov⟩ := owns_slice hrow.out
  subst hov
  go_wp2_with fail
  refine (tries_right _ a1 len1 cap1 e (HE.out.grown G3.out) HR.out (by omega)).mono ?_
  rintro r v4 ⟨ta, tc, ys, rfl, it, tp, tw, g4⟩
  have TY := Lib.hid (sorted_tries e tp.out tw.out)
  have TA := Lib.hid (TsAt.of_isTries it.out)
  have G4 := Lib.hid (gb_trans G3.out g4.out)
  have hyl : ys.length = (tries e len1).length := by rw [← TY.out, List.length_map]
  have hxl := ho.out.len
  have RO := Lib.hid (ownsRow_keep hrow.out (fun i e => g4.out.block i (hrow.out.lt i e).2 (by simp)))
  have HO := Lib.hid ho.out
  have HF := Lib.hid hf.out
  have HA := Lib.hid hall.out
  have HTN2 := HTN.out
  rw [← hyl] at hxl HTN2
  have hyl6 : (ys.length : Int) ≤ 120 := by omega
  have HYL := Lib.hid hyl
  have HXL := Lib.hid hxl
  rw [hxl]
  rw [hxl] at RO
  clear it tp tw hrow ho hf hall hyl hxl HTN2 g1 g3 g4 E1 Z1
  have GM := Lib.hid (World.grownBy_alloc v4 (.map #[] 0) none)
  have MM : Hid (MapG Try.prog 3 (Value.int .i64) (v4.alloc (.map #[] 0)) v4.heap.size 0 (placeV xs 0)) := Lib.hid (MapG.made v4 Try.prog 3 (Value.int .i64))
  have OE : Hid (((v4.alloc (.map #[] 0)).alloc (.cells #[] 2)).ownsRow (v4.heap.size + 1) 2 1 (.slice (some ⟨v4.heap.size + 1, 0, none⟩) 0 0) 0 []) := Lib.hid (by have := ownsRow_empty (v4.alloc (.map #[] 0)) 2 1; rwa [World.size_alloc] at this)
  have HSZ := Lib.hid (HZ.out.grown (gb_trans (gb_trans G4.out GM.out) (World.grownBy_alloc _ (.cells #[] 2) none))).src
  go_wp2_with (at_builtin; go_loud (refine append64 _ rfl (.tmp 41) (.tmp 42) rfl (v4.heap.size + 1) _ 0 [] rfl OE.out a0 len0 cap0 (base.vals z0 len0) rfl (by simp [base.vals]) HSZ.out (one_nums _ _ _) (by omega) (by simp) ?_); intro b' c' u2 ho2 hg2 hv2; clear hv2)
  simp only [Nat.zero_add, List.nil_append] at ho2
  have HG2 := Lib.hid (gb_trans GM.out (gb_overO (World.grownBy_alloc (v4.alloc (.map #[] 0)) _ none) hg2 (by intro i e; cases e; simp)))
  have MM2 := Lib.hid ((MM.out.grown (World.grownBy_alloc _ (.cells #[] 2) none) (by simp)).grown hg2 (show (some v4.heap.size : Option Nat) ≠ some (v4.heap.size + 1) by simp))
  have NV0 : Hid (IsNums .i64 u2 b' len0 (stAt z0 (cacs e len1) 0)) := Lib.hid (IsNums.of_own ho2)
  clear ho2 hg2 MM GM HSZ OE hmm
  generalize hmb : v4.heap.size = mb at *
  have HMB : Hid (v4.heap.size ≤ mb) := Lib.hid (by omega)
  clear hmb
  go_loopw [9, 10] (fun vv iv wr => ∃ (k c : Nat) (va : Option Addr) (vc : Nat), k ≤ ys.length ∧ iv = .int .i64 k ∧ vv = .slice va len0 vc ∧ Hid (DoneI xs k c) ∧ Hid (c ≤ before e len1) ∧ Hid (IsNums .i64 wr va len0 (stAt z0 (cacs e len1) c)) ∧ Hid (MapG Try.prog 3 (Value.int .i64) wr mb k (placeV xs k)) ∧ Hid (v4.grownBy wr none)) (fun _ iv _ => (ys.length - intOf iv).toNat)
  case atStart => exact ⟨0, 0, b', c', by omega, rfl, rfl, DoneI.start xs, Nat.zero_le _, NV0, MM2, HG2⟩
  case round =>
    obtain ⟨k, c, va, vc, hk, rfl, rfl, D, HC, NV, M, G⟩ := hrel
    clear NV0 MM2 HG2
    by_cases hlt : k < ys.length
    · have hlt' : (k : Int) < (ys.length : Int) := by omega
      have hk6 : (k : Int) < 1000000 := by omega
      obtain ⟨ax, hxk⟩ : ∃ a, xs[k]? = some a := ⟨_, List.getElem?_eq_getElem (show k < xs.length by rw [HXL.out]; exact hlt)⟩
      obtain ⟨o1, o2, tt, o3, o4⟩ := HO.out.get hxk
      have crow : ∃ ob, oa = some ⟨ob, 0, none⟩ ∧ ob < v4.heap.size ∧ v4.cell? ⟨ob, k, none⟩ = some (.int .i64 ax.no) := by
        rcases RO.out.2 with ⟨_, h⟩ | ⟨ob, ocap, ocur, e1, _, hb, _⟩
        · omega
        · have e2 : oa = some ⟨ob, 0, none⟩ := by injection e1
          subst e2
          refine ⟨ob, rfl, lt_of_block hb, (RO.out.cellAt k (show k < ys.length * 1 by omega)).trans ?_⟩
          rw [List.getElem?_map, hxk]
          rfl
      obtain ⟨ob, rfl, hob, co⟩ := crow
      have ho1 : ax.no < ys.length := by rw [HYL.out]; exact o1
      have ho1' : (ax.no : Int) < (ys.length : Int) := by omega
      have ho0 : ¬ (ax.no : Int) < 0 := by omega
      have hog : ¬ (ys.length : Int) ≤ (ax.no : Int) := by omega
      obtain ⟨yo, hgo⟩ : ∃ y, ys[ax.no]? = some y := ⟨_, List.getElem?_eq_getElem ho1⟩
      have htt : yo.1 = tt := by
        have : (tries e len1)[ax.no]? = some yo.1 := by rw [← TY.out, List.getElem?_map, hgo]; rfl
        rw [o3] at this
        injection this with this
        exact this.symm
      obtain ⟨tb2, off2, va2, vc2, rfl, htb, hv2, hl2, d0, d1, d2, d3, d4, d5, d6, d7, d8⟩ := TA.out.at hgo
      rw [htt] at hv2 hl2 d0 d1 d2 d3 d4 d5 d6 d7 d8
      have HL9 := Lib.hid hl2
      have hp := D.out.at_ HR.out HF.out HA.out HO.out HC.out hxk
      have FT := Lib.hid (seen_fits HR.out HF.out HA.out o3 (o2.symm.trans hp))
      have HN := Lib.hid (D.out.next hxk hp)
      rw [o4] at HN
      have HAW := Lib.hid (HAW0.out tt (List.mem_of_getElem? o3)).2
      have hac6 : tt.ac.length ≤ 1000000 := by have := (HAW0.out tt (List.mem_of_getElem? o3)).1; omega
      have HST : Hid (tt.co = true → stAt z0 (cacs e len1) (c + 1) = app (stAt z0 (cacs e len1) c) tt.ac ∧ c + 1 ≤ before e len1) := Lib.hid (fun hc => by
        obtain ⟨q, q1, q2, q3, _, q5⟩ := commit_seen HR.out HF.out HA.out o3 hc
        have hqc : before e q = c := by rw [← o2, hp] at q3; omega
        rw [hqc] at q5
        have h5 : before e (q + 1) = before e q + 1 := by rw [before, if_pos q2]
        have h6 := before_mono e (show q + 1 ≤ len1 by omega)
        exact ⟨q5, by omega⟩)
      have PN : Hid (placeV xs k (ax.no : Int) = none) := Lib.hid (by rw [placeV_get (fun i j a b => HO.out.no_one) k k ax (by rw [HXL.out]; omega) hxk, if_neg (by omega)])
      have PX := Lib.hid (placeV_next hxk)
      have HWF := Lib.hid (show (Lit.int .i64 (ax.no : Int)).wf = true from WalkArith.wf_i64 (by omega))
      clear hxk o1 o2 o3 o4 hgo htt hv2 hl2 hp ho1 D
      generalize ax.no = ono at *
      obtain ⟨xth, xtx, xat, xst, xb, xen, xre, xco, xac⟩ := tt
      dsimp only at d0 d1 d2 d3 d4 d5 d6 d7 d8 HN HST HL9 FT HAW hac6
      have cow := G.out.cell co (by simp)
      cases xco with
      | true =>
        have HS2 := Lib.hid (HST.out rfl)
        rw [if_pos rfl] at HN
        go_wp2_with (first | (at_lookup; refine wpList_look_mapG rfl _ _ 36 rfl 3 3 kInt Try.underlying36 _ (zeroI _) (Value.int .i64) mb k (placeV xs k) rfl M.out (ono : Int) _ rfl (keyInt HWF.out) (.int .i64 0) false (by rw [PN.out]; rfl) (by rw [PN.out]; rfl) ?_) | (at_mapUpdate; refine wpList_set_mapG rfl _ _ _ 36 rfl 3 3 kInt (Value.int .i64) vint_inj Try.underlying36 mb k (placeV xs k) rfl M.out (by unfold maxLen; omega) (ono : Int) _ rfl (keyInt HWF.out) (.int .i64 k) rfl ?_; intro u2 m2 g2; have M2 := Lib.hid m2; have NV2 := Lib.hid (nums_set M.out NV.out g2); have GU := Lib.hid (gb_over G.out g2 HMB.out); have cox := GU.out.cell co (by simp); have p0x := GU.out.cell d0 (by simp); have p1x := GU.out.cell d1 (by simp); have p2x := GU.out.cell d2 (by simp); have p3x := GU.out.cell d3 (by simp); have p4x := GU.out.cell d4 (by simp); have p5x := GU.out.cell d5 (by simp); have p6x := GU.out.cell d6 (by simp); have p7x := GU.out.cell d7 (by simp); have p8x := GU.out.cell d8 (by simp); have LU := Lib.hid (HL9.out.grown GU.out); clear m2 g2) | (go_at_call 16; refine (fits_any va len0 vc _ ⟨xth, xtx, xat, xst, xb, xen, xre, true, xac⟩ va2 vc2 _ NV2.out LU.out HAW.out hac6).mono ?_; dsimp only; rw [FT.out]; rintro r u3 ⟨rfl, g3⟩; have GV := Lib.hid (gb_trans GU.out g3.out); have coy := GV.out.cell co (by simp); have p0y := GV.out.cell d0 (by simp); have p1y := GV.out.cell d1 (by simp); have p2y := GV.out.cell d2 (by simp); have p3y := GV.out.cell d3 (by simp); have p4y := GV.out.cell d4 (by simp); have p5y := GV.out.cell d5 (by simp); have p6y := GV.out.cell d6 (by simp); have p7y := GV.out.cell d7 (by simp); have p8y := GV.out.cell d8 (by simp)) | (go_at_call 17; refine (apply_any va len0 vc _ ⟨xth, xtx, xat, xst, xb, xen, xre, true, xac⟩ va2 vc2 _ (NV2.out.grown g3.out) (LU.out.grown g3.out) (by omega) hac6).mono ?_; rintro r u4 ⟨a4, c4, rfl, o4, g4⟩; have NV4 : Hid (IsNums .i64 u4 a4 len0 (stAt z0 (cacs e len1) (c + 1))) := Lib.hid (by rw [HS2.out.1]; exact IsNums.of_own o4.out)) | go_in)
        go_roundw
        case rel => exact ⟨k + 1, c + 1, _, _, by omega, by go_num, rfl, HN, Lib.hid HS2.out.2, NV4, M2.out.grown (gb_trans g3.out g4.out) (by simp) |>.congr (fun _ _ _ => by rw [PX.out]), gb_trans GV.out g4.out⟩
        case measure => simp [intOf]; omega
      | false =>
        rw [if_neg (by simp)] at HN
        go_wp2_with (first | (at_lookup; refine wpList_look_mapG rfl _ _ 36 rfl 3 3 kInt Try.underlying36 _ (zeroI _) (Value.int .i64) mb k (placeV xs k) rfl M.out (ono : Int) _ rfl (keyInt HWF.out) (.int .i64 0) false (by rw [PN.out]; rfl) (by rw [PN.out]; rfl) ?_) | (at_mapUpdate; refine wpList_set_mapG rfl _ _ _ 36 rfl 3 3 kInt (Value.int .i64) vint_inj Try.underlying36 mb k (placeV xs k) rfl M.out (by unfold maxLen; omega) (ono : Int) _ rfl (keyInt HWF.out) (.int .i64 k) rfl ?_; intro u2 m2 g2; have M2 := Lib.hid m2; have NV2 := Lib.hid (nums_set M.out NV.out g2); have GU := Lib.hid (gb_over G.out g2 HMB.out); have cox := GU.out.cell co (by simp); have p0x := GU.out.cell d0 (by simp); have p1x := GU.out.cell d1 (by simp); have p2x := GU.out.cell d2 (by simp); have p3x := GU.out.cell d3 (by simp); have p4x := GU.out.cell d4 (by simp); have p5x := GU.out.cell d5 (by simp); have p6x := GU.out.cell d6 (by simp); have p7x := GU.out.cell d7 (by simp); have p8x := GU.out.cell d8 (by simp); have LU := Lib.hid (HL9.out.grown GU.out); clear m2 g2) | (go_at_call 16; refine (fits_any va len0 vc _ ⟨xth, xtx, xat, xst, xb, xen, xre, false, xac⟩ va2 vc2 _ NV2.out LU.out HAW.out hac6).mono ?_; dsimp only; rw [FT.out]; rintro r u3 ⟨rfl, g3⟩; have GV := Lib.hid (gb_trans GU.out g3.out); have coy := GV.out.cell co (by simp); have p0y := GV.out.cell d0 (by simp); have p1y := GV.out.cell d1 (by simp); have p2y := GV.out.cell d2 (by simp); have p3y := GV.out.cell d3 (by simp); have p4y := GV.out.cell d4 (by simp); have p5y := GV.out.cell d5 (by simp); have p6y := GV.out.cell d6 (by simp); have p7y := GV.out.cell d7 (by simp); have p8y := GV.out.cell d8 (by simp)) | go_in)
        go_roundw
        case rel => exact ⟨k + 1, c, _, _, by omega, by go_num, rfl, HN, HC, NV2.out.grown g3.out, M2.out.grown g3.out (by simp) |>.congr (fun _ _ _ => by rw [PX.out]), GV⟩
        case measure => simp [intOf]; omega
    · obtain rfl : k = ys.length := by omega
      have HCE := Lib.hid (show (cacs e len1).length = c by rw [cacs_before e HR.out]; have hD := D.out; rw [← HXL.out] at hD; exact (hD.done HR.out HF.out HA.out HO.out HC.out).symm)
      clear D
      obtain ⟨W1, rfl⟩ : ∃ W, W = wr := ⟨wr, rfl⟩
      go_wp2_with fail
      go_loopw [13] (fun iv wq => ∃ ka : Nat, ka ≤ ys.length ∧ iv = .int .i64 ka ∧ Hid (W1.grownBy wq none)) (fun iv _ => (ys.length - intOf iv).toNat)
      case atStart => exact ⟨0, by omega, rfl, gb_refl _ _⟩
      case round =>
        obtain ⟨ka, hka, rfl, GA⟩ := hrel
        by_cases hlt : ka < ys.length
        · have hlt' : (ka : Int) < (ys.length : Int) := by omega
          go_wp2_with fail
          go_loopw [14] (fun iv wq => ∃ kb : Nat, kb ≤ ys.length ∧ iv = .int .i64 kb ∧ Hid (W1.grownBy wq none)) (fun iv _ => (ys.length - intOf iv).toNat)
          case atStart => exact ⟨0, by omega, rfl, GA⟩
          case round =>
            clear GA
            obtain ⟨kb, hkb, rfl, GB⟩ := hrel
            by_cases hlb : kb < ys.length
            · have hlb' : (kb : Int) < (ys.length : Int) := by omega
              have ka6 : (ka : Int) < 1000000 := by omega
              have kb6 : (kb : Int) < 1000000 := by omega
              have hga := List.getElem?_eq_getElem hlt
              have hgb := List.getElem?_eq_getElem hlb
              have hta : (tries e len1)[ka]? = some ys[ka].1 := by rw [← TY.out, List.getElem?_map, hga]; rfl
              have htb : (tries e len1)[kb]? = some ys[kb].1 := by rw [← TY.out, List.getElem?_map, hgb]; rfl
              obtain ⟨ia, xa, i1, i2⟩ := HO.out.all (show ka < (tries e len1).length by rw [← HYL.out]; exact hlt)
              obtain ⟨ib, xb, j1, j2⟩ := HO.out.all (show kb < (tries e len1).length by rw [← HYL.out]; exact hlb)
              have hia : ia < ys.length := by rw [← HXL.out]; exact (List.getElem?_eq_some_iff.1 i1).1
              have hib : ib < ys.length := by rw [← HXL.out]; exact (List.getElem?_eq_some_iff.1 j1).1
              have PA : placeV xs ys.length (ka : Int) = some (.int .i64 ia) := by rw [← i2, placeV_get (fun i j a b => HO.out.no_one) ys.length ia xa (by rw [HXL.out]; omega) i1, if_pos hia]
              have PB : placeV xs ys.length (kb : Int) = some (.int .i64 ib) := by rw [← j2, placeV_get (fun i j a b => HO.out.no_one) ys.length ib xb (by rw [HXL.out]; omega) j1, if_pos hib]
              have OT := order_time (i := ia) (j := ib) HR.out HF.out HA.out HO.out i1 j1 (by rw [i2]; exact hta) (by rw [j2]; exact htb)
              obtain ⟨tb, off, _, _, rfl, htl, _, _, _, _, _, _, _, a5, _, _, _⟩ := (TA.out.grown (gb_trans G.out GB.out)).at hga
              obtain ⟨tb2, off2, _, _, e9, _, _, _, _, _, _, _, b4, _, _, _, _⟩ := (TA.out.grown (gb_trans G.out GB.out)).at hgb
              cases e9
              have MB := M.out.grown GB.out (r := none) (by simp)
              have hma : ∀ m, (Instr.lookup 36 (.map (some mb)) (.int .i64 (ka : Int)) false).run Try.prog (wr.drewN m) = .ok (.int .i64 ia) (wr.drewN m) := fun m => by
                have := (MB.grown (gb_drewN (gb_refl wr none) m) (by simp)).get kInt Try.underlying36 (zeroI _) (x := (ka : Int)) (keyInt (WalkArith.wf_i64 (by omega)))
                rw [PA] at this
                exact this
              have hmb2 : ∀ m, (Instr.lookup 36 (.map (some mb)) (.int .i64 (kb : Int)) false).run Try.prog (wr.drewN m) = .ok (.int .i64 ib) (wr.drewN m) := fun m => by
                have := (MB.grown (gb_drewN (gb_refl wr none) m) (by simp)).get kInt Try.underlying36 (zeroI _) (x := (kb : Int)) (keyInt (WalkArith.wf_i64 (by omega)))
                rw [PB] at this
                exact this
              clear hga hgb hta htb i1 i2 j1 j2 PA PB MB
              generalize ys[ka].1.en = en at *
              generalize ys[kb].1.b = bb at *
              have HQ : Hid (∃ ok : Bool, ok = ok) := Lib.hid ⟨true, rfl⟩
              by_cases h1 : 0 ≤ en
              · by_cases h2 : en < bb
                · have h3 : decide ((ib : Int) < (ia : Int)) = false := by have := OT h1 h2; simp; omega
                  clear OT hia hib
                  generalize (ia : Int) = za at *
                  generalize (ib : Int) = zb at *
                  go_wp2_with fail; go_quiet (fail); go_wp2; go_roundw; (case rel => exact ⟨kb + 1, by omega, by go_num, by first | exact GB | exact gb_drewN GB.out _ | exact gb_drew (gb_drewN GB.out _)⟩); (case measure => simp [intOf]; omega)
                · have h2' : decide (en < bb) = false := by simp; omega
                  clear OT h2
                  go_wp2_with fail; go_quiet (fail); go_wp2; go_roundw; (case rel => exact ⟨kb + 1, by omega, by go_num, by first | exact GB | exact gb_drewN GB.out _ | exact gb_drew (gb_drewN GB.out _)⟩); (case measure => simp [intOf]; omega)
              · have h1' : decide (0 ≤ en) = false := by simp; omega
                clear OT h1
                go_wp2_with fail; go_quiet (fail); go_wp2; go_roundw; (case rel => exact ⟨kb + 1, by omega, by go_num, by first | exact GB | exact gb_drewN GB.out _ | exact gb_drew (gb_drewN GB.out _)⟩); (case measure => simp [intOf]; omega)
            · obtain rfl : kb = ys.length := by omega
              go_wp2
              go_roundw
              case rel => exact ⟨ka + 1, by omega, by go_num, GB⟩
              case measure => simp [intOf]; omega
        · obtain rfl : ka = ys.length := by omega
          have GE := Lib.hid (gb_trans G.out GA.out)
          go_wp2_with (first
            | (go_at_call 19; refine (last_any a0 len0 cap0 z0 a1 len1 cap1 e _ (HZ.out.grown (gb_trans G4.out GE.out)) (HE.out.grown (gb_trans G4.out GE.out)) (by omega) (by omega)).mono ?_; rintro r u6 ⟨la, lc, rfl, hl6, g6⟩; rw [HCE.out] at hl6)
            | (go_at_call 18; refine (vals_yes _ _ len0 vc lc (stAt z0 (cacs e len1) c) _ (NV.out.grown (gb_trans GA.out g6.out)) hl6.out (by omega)).mono ?_; rintro r u7 ⟨rfl, g7⟩)
            | go_in)
          go_ret
          exact ⟨rfl, gb_below (gb_trans (gb_trans (gb_trans G4.out GE.out) g6.out) g7.out)⟩

theorem own : ownKnob Try.prog.godebug = none := by kernel_rfl
theorem laidOut : laidOutB Try.prog = true := by kernel_rfl

/-! ### THE ROW's STEP, as the guide has it -/
set_option maxRecDepth 100000 in
theorem lifted (os : Os) (started : os.Started) (H : Type) (enc : TypeId × Value → H) :
    ReturnsInHanded {} Try.checked os 4 .any (Rows.opaqueOrderSpec.pre6 enc Try.prog Try.f4 Rows.opaqueOrderRow.domain false) (Rows.opaqueOrderSpec.post enc Try.prog Try.f4 false true false false) := by
  refine returnsInHanded_of_change (C := Try.checked) own started (by kernel_rfl) Try.func4
    (ChangeSpec.witness6 (enc := enc) (C := Try.checked) false ⟨#[], #[.slice none 0 0, .slice none 0 0], []⟩ 8 (by kernel_rfl) (by kernel_rfl) (by kernel_rfl) (by kernel_rfl)) ?_
  intro W base args ds gs before hval0 hW hcnd _
  have hval : ∀ (j : Nat) t v, Try.f4.params[j]? = some t → args[j]? = some v → Value.okWide Try.prog W .any base t v := hval0
  have hW' := hW
  obtain ⟨p, q, hA0, hV, rfl, hfz, hnd⟩ := hW
  have hA : DataW.TrodAll enc Try.prog W 0 (fun _ => true) true Try.f4.params.toList args.toList ds p := hA0
  rw [Try.params4] at hA hval
  obtain ⟨v0, vs0, d0, ds0, p0, q0, hargs, rfl, rfl, h0, r0⟩ := trodAll_cons hA
  obtain ⟨v1, vs1, d1, ds1, p1, q1, rfl, rfl, rfl, h1, r1⟩ := trodAll_cons r0
  obtain ⟨rfl, rfl, rfl⟩ := trodAll_nil r1
  obtain rfl : args = #[v0, v1] := by cases args; simp_all
  obtain ⟨rfl, rfl⟩ := trodVars_none hV
  obtain ⟨a0, len0, cap0, rfl⟩ := okWide_slice Try.underlying22 (hval 0 22 v0 rfl rfl)
  have k0 := h0
  have lt0 : ∀ x ∈ p0, x.block < W.heap.size := by obtain ⟨m, hm⟩ := k0; exact DataW.trod_lt m _ _ _ hm
  obtain ⟨z0, w0⟩ : ∃ z, IsRow .i64 W a0 len0 cap0 z := by
    obtain ⟨fuel, hf⟩ := h0
    exact isRow_of Try.underlying22 Try.underlying2 (by kernel_rfl) hf
  obtain ⟨a1, len1, cap1, rfl⟩ := okWide_slice Try.underlying23 (hval 1 23 v1 rfl rfl)
  have k1 := h1
  have lt1 : ∀ x ∈ p1, x.block < W.heap.size := by obtain ⟨m, hm⟩ := k1; exact DataW.trod_lt m _ _ _ hm
  obtain ⟨z1, w1⟩ : ∃ z, IsInts 7 W a1 len1 cap1 z := by
    obtain ⟨fuel, hf⟩ := h1
    exact isMixed_of Try.underlying23 Try.underlying51 Try.underlying3 Try.underlying2 (by kernel_rfl) (by kernel_rfl) (by kernel_rfl) (by decide) (by decide) hf
  clear hA0 hval0
  refine (walk a0 len0 cap0 z0 a1 len1 cap1 z1 W w0 w1).mono fun e W' ⟨he, bel⟩ => ?_
  subst he
  exact ⟨_, rfl, _, _, _, [], _, [], hW', trodAll_mk1 (shut_bool Try.underlying4 _), (trodAll_cons_mk (Below.trod laidOut (by kernel_rfl) (of_decide_eq_true (by kernel_rfl)) k0 bel lt0) (trodAll_cons_mk (Below.trod laidOut (by kernel_rfl) (of_decide_eq_true (by kernel_rfl)) k1 bel lt1) trodAll_mk0)), rfl, bel.frame _, fun h => by cases h⟩

theorem over : Rows.opaqueOrderRow.holds Try.pinned (OpenSpec.ofChange Rows.opaqueOrderSpec) :=
  OpenClaim.holds_of_wide 4 Try.f4 rfl rfl rfl rfl rfl rfl rfl ⟨rfl, rfl, rfl, rfl, rfl⟩ rfl rfl rfl rfl rfl (by kernel_rfl) Try.func4 (by kernel_rfl)
    (of_decide_eq_true (by kernel_rfl)) (by unfold Func.isWrapper; first | (rw [if_pos (by decide +kernel)]; kernel_rfl) | (rw [if_neg (by decide +kernel)]; exact ⟨rfl, rfl⟩))
    (fun os started H enc _ => lifted os started H enc)

theorem proved : Rows.OpaqueOrderSaid := over
#print axioms proved
end Go.Proofs.Ytkidkhjpijjphaa.opaqueOrder
