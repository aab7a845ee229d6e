/-
  HistParts: the tries of all transactions together are all tries, each in its own one, numbered from 1 on; for any list of events.
  Conditions: none (of more than 120 events, and of what isn't right, the law says nothing by itself).
-/
import Derived.Test.YtgnakcahmmdncaaRows
import Derived.Test.YtgnakcahmmdncaaHb
import Derived.Test.YtgnakcahmmdncaaHu
import Derived.Test.YtgnakcahmmdncaaOpenB
import Derived.WideKeyPair
import Derived.BigRegion
import Derived.Deep.QuietTactic
import Derived.BigQuiet
namespace Go.Proofs.Ytgnakcahmmdncaa.histParts
open Go.ChangeShapes Go.WideShapes Go.ChangeAt Go.RowKit Go.Proofs.Ytgnakcahmmdncaa.base Go.Proofs.Ytgnakcahmmdncaa.hs Go.Maps Go.WideMaps
set_option linter.unusedVariables false
set_option maxRecDepth 100000

theorem arr2 : ArrKey Try.prog 44 3 2 := ⟨Try.underlying44, by kernel_rfl, by kernel_rfl, by kernel_rfl⟩
theorem row2 : (44 : TypeId) < Try.prog.types.size := of_decide_eq_true (by kernel_rfl)
theorem kTwo : Keyed Try.prog 44 := Keyed.of_law (deep_law_laid laidOut17 (m := 2) (by omega) row2 (by kernel_rfl) (by rw [Try.underlying44]))
theorem keyTwo {x : Int × Int} (h1 : (Lit.int .i64 x.1).wf = true) (h2 : (Lit.int .i64 x.2).wf = true) : keyOf Try.prog 44 (two x) = some (.string (keyBytes [.int .i64 x.1, .int .i64 x.2])) :=
  keyOf_pair arr2 Try.underlying3 ⟨Try.prog.types.size - 1, by kernel_rfl⟩ h1 h2
theorem zeroBool (w : World) : (zeroValue 4).run Try.prog w = .ok (.bool false) w := by kernel_rfl
theorem seen_upd (T : List Tr) {i : Nat} {t : Tr} (h : T[i]? = some t) (y : Int × Int) : seenF T (i + 1) y = upd (seenF T i) (t.th, t.tx) (some (.bool true)) y := by
  rw [seen_new T h]
  by_cases e1 : y = pr t
  · rw [if_pos e1, e1]
    exact (upd_same _ _ _).symm
  · rw [if_neg e1]
    exact (upd_other _ _ e1).symm

theorem walk_out (a0 : Option Addr) (len0 cap0 : Nat) (w : World) (h : 120 < (len0 : Int)) : Calls Try.prog 6 #[.slice a0 len0 cap0] w fun e w' => e = .returned (.bool true) ∧ Below w.heap.size w w' := by
  go_enter Try.func6, Try.ntmps6
  go_wp2_with fail
  refine (alive_any _).mono ?_
  rintro e v1 ⟨rfl, g1⟩
  go_wp2
  go_ret
  exact ⟨rfl, gb_below g1.out⟩

theorem walk_wrong (a0 : Option Addr) (len0 cap0 : Nat) (e : Evs) (w : World) (h : len0 ≤ 120) (hl : IsEvs w a0 len0 e) (hr : right e len0 = false) : Calls Try.prog 6 #[.slice a0 len0 cap0] w fun e w' => e = .returned (.bool true) ∧ Below w.heap.size w w' := by
  have HL := Lib.hid hl
  have h120 : (len0 : Int) ≤ 120 := by omega
  clear hl
  go_enter Try.func6, Try.ntmps6
  go_wp2_with fail
  refine (alive_any _).mono ?_
  rintro r v1 ⟨rfl, g1⟩
  go_wp2_with fail
  refine (right_any a0 len0 cap0 e _ (HL.out.grown g1.out) (by omega)).mono ?_
  rw [hr]
  rintro r v2 ⟨rfl, g2⟩
  go_wp2
  go_ret
  exact ⟨rfl, gb_below (gb_trans g1.out g2.out)⟩

/-- Where the fields of a try lie. -/
theorem tries_at {w : World} {a : Option Addr} {ys : List (Tr × Value)} (h : IsTries w a ys) (h0 : 0 < ys.length) : ∃ g, a = some ⟨g, 0, none⟩ ∧ g < w.heap.size ∧ ∀ i x, ys[i]? = some x → w.cell? ⟨g, i * 9, none⟩ = some (.int .i64 x.1.th) ∧ w.cell? ⟨g, i * 9 + 1, none⟩ = some (.int .i64 x.1.tx) ∧ w.cell? ⟨g, i * 9 + 2, none⟩ = some (.int .i64 x.1.at_) ∧ w.cell? ⟨g, i * 9 + 4, none⟩ = some (.int .i64 x.1.b) := by
  obtain ⟨h1, h2⟩ := h
  rcases h1 with h1 | ⟨g, h1, hg, hc⟩
  · simp [h1] at h0
  · exact ⟨g, h1, hg, fun i x hx => ⟨hc i x hx 0 _ rfl, hc i x hx 1 _ rfl, hc i x hx 2 _ rfl, hc i x hx 4 _ rfl⟩⟩

/-- What the events lend the tries: numbers of 64 bits. -/
theorem evs_wf {w : World} {a : Option Addr} {n : Nat} {e : Evs} (h : IsEvs w a n e) {i : Nat} (hi : i < n) : Ev.Wf (e i) := by
  rcases h with h | ⟨b, off, h1, h2, h3⟩
  · omega
  · exact (h3 i hi).2

set_option maxHeartbeats 4000000 in
theorem walk (a0 : Option Addr) (len0 cap0 : Nat) (z0 : Nat → Nat → Int) (w : World) (w0 : IsInts 7 w a0 len0 cap0 z0) : Calls Try.prog 6 #[.slice a0 len0 cap0] w fun e w' => e = .returned (.bool true) ∧ Below w.heap.size w w' := by
  by_cases hbig : 120 < (len0 : Int)
  · exact walk_out a0 len0 cap0 w hbig
  have hle : len0 ≤ 120 := by omega
  have h120 : (len0 : Int) ≤ 120 := by omega
  have HE := Lib.hid (isEvs_of w0)
  generalize (fun i => (⟨z0 i 0, z0 i 1, z0 i 2, z0 i 3, z0 i 4, z0 i 5, z0 i 6⟩ : Ev)) = e at *
  clear w0 hbig
  cases hr : right e len0 with
  | false => exact walk_wrong a0 len0 cap0 e w hle HE.out hr
  | true =>
  have HR := Lib.hid hr
  clear hr
  have hmm := @run_makeMap Try.prog
  go_enter Try.func6, Try.ntmps6
  go_wp2_with fail
  refine (alive_any _).mono ?_
  rintro r v1 ⟨rfl, g1⟩
  have HE1 := Lib.hid (HE.out.grown g1.out)
  go_wp2_with fail
  refine (right_any a0 len0 cap0 e _ HE1.out (by omega)).mono ?_
  rw [HR.out]
  rintro r v2 ⟨rfl, g2⟩
  have HE2 := Lib.hid (HE1.out.grown g2.out)
  go_wp2_with fail
  refine (tries_right _ a0 len0 cap0 e HE2.out HR.out (by omega)).mono ?_
  rintro r v3 ⟨ax, cx, ys, rfl, HX, X2, X3, g3⟩
  have HE3 := Lib.hid (HE2.out.grown g3.out)
  have EX := Lib.hid (sorted_tries e X2.out X3.out)
  have GW := Lib.hid (gb_trans (gb_trans g1.out g2.out) g3.out)
  clear X2 X3 g1 g2 g3 HE HE1 HE2
  have hyl : ys.length = (tries e len0).length := by rw [← EX.out, List.length_map]
  have YL := Lib.hid hyl
  have hy : ys.length ≤ 120 := by have := tries_n e len0; omega
  have hy2 : (ys.length : Int) ≤ 120 := by omega
  have COV := Lib.hid (show ∀ k, cov (tries e len0) k ≤ ys.length from fun k => by rw [hyl]; exact cov_le _ _)
  clear hyl
  have M0 := Lib.hid (MapG.made v3 Try.prog 44 two)
  have G0 := Lib.hid (World.grownBy_alloc v3 (.map #[] 0) none)
  go_wp2
  generalize hu : v3.alloc (.map #[] 0) = u at *
  generalize hom : v3.heap.size = om at *
  have OM := Lib.hid hom
  clear hom hu
  go_loopw [4, 6] (fun nv iv wr => ∃ k : Nat, k ≤ ys.length ∧ iv = .int .i64 k ∧ nv = .int .i64 (cov (tries e len0) k) ∧ Hid (MapG Try.prog 44 two wr om k (seenF (tries e len0) k)) ∧ Hid (v3.grownBy wr none)) (fun _ iv _ => (ys.length - intOf iv).toNat)
  case atStart => exact ⟨0, by omega, rfl, by rw [cov_zero]; rfl, M0, G0⟩
  case round =>
    obtain ⟨k, hk, rfl, rfl, M, G⟩ := hrel
    by_cases hlt : k < ys.length
    · have hlt' : (k : Int) < (ys.length : Int) := by omega
      obtain ⟨g, rfl, hg, fy⟩ := tries_at HX.out (show 0 < ys.length by omega)
      obtain ⟨y0, y1, _, _⟩ := fy k ys[k] (List.getElem?_eq_getElem hlt)
      have ht : (tries e len0)[k]? = some ys[k].1 := by rw [← EX.out, List.getElem?_map, List.getElem?_eq_getElem hlt]; rfl
      clear fy
      generalize ys[k].1 = x at *
      have WF := Lib.hid (show (Lit.int .i64 x.th).wf = true ∧ (Lit.int .i64 x.tx).wf = true by
        obtain ⟨b, hb1, _, hb3⟩ := (tries_mem e len0 x).1 (List.mem_of_getElem? ht)
        have hf := trAt_fix e b len0
        rw [hb3] at hf
        have := evs_wf HE3.out hb1
        rw [hf.1, hf.2.1]
        exact ⟨this.th, this.tx⟩)
      have HT := Lib.hid ht
      clear ht
      have om_lt := M.out.lt
      have hg2 : g < wr.heap.size := Nat.lt_of_lt_of_le hg G.out.size
      replace y0 := G.out.cell y0 (by simp)
      replace y1 := G.out.cell y1 (by simp)
      go_wp2_with fail
      go_region
      have BA := Lib.hid (show Blk 44 (wr.alloc (.cells #[.int .i64 x.th, .int .i64 x.tx] 44)).drew wr.heap.size #[.int .i64 x.th, .int .i64 x.tx] from (Blk.made wr 44 #[.int .i64 x.th, .int .i64 x.tx]).grown (r := none) (gb_drew (gb_refl _ _)) (by simp))
      have GA := Lib.hid (show World.grownBy wr (wr.alloc (.cells #[.int .i64 x.th, .int .i64 x.tx] 44)).drew none from gb_drew (gb_alloc (gb_refl _ _) _))
      have M1 := Lib.hid (M.out.grown GA.out (by simp))
      have GV := Lib.hid (gb_trans G.out GA.out)
      clear M G GA y0 y1 hg2
      generalize (wr.alloc (.cells #[.int .i64 x.th, .int .i64 x.tx] 44)).drew = u0 at *
      generalize wr.heap.size = ba at *
      have b0 := BA.out.cell 0
      have b1 := BA.out.cell 1
      by_cases hs : pr x ∈ ((tries e len0).take k).map pr
      · have HV := Lib.hid (show (seenF (tries e len0) k (x.th, x.tx)).getD (.bool false) = .bool true by
          unfold seenF
          rw [if_pos (show (x.th, x.tx) ∈ _ from hs)]
          rfl)
        have HS := Lib.hid hs
        clear hs
        go_wp2_with (first | (at_lookup; refine wpList_get_mapG rfl (.tmp 40) (.tmp 41) 43 rfl 44 4 kTwo Try.underlying43 _ (zeroBool _) two om k (seenF (tries e len0) k) rfl M1.out (x.th, x.tx) _ rfl (keyTwo WF.out.1 WF.out.2) (.bool true) HV.out ?_) | fail)
        go_roundw
        case rel => exact ⟨k + 1, by omega, by go_num, by rw [cov_old _ HT.out HS.out], by rw [seen_old _ HT.out HS.out]; exact M1.out.more (by omega), GV.out⟩
        case measure => simp [intOf]; omega
      · have HV := Lib.hid (show (seenF (tries e len0) k (x.th, x.tx)).getD (.bool false) = .bool false by
          unfold seenF
          rw [if_neg (show (x.th, x.tx) ∉ _ from hs)]
          rfl)
        have HS := Lib.hid hs
        clear hs
        have hba : ba ≠ om := Nat.ne_of_gt om_lt
        go_wp2_with (first | (at_lookup; refine wpList_get_mapG rfl (.tmp 40) (.tmp 41) 43 rfl 44 4 kTwo Try.underlying43 _ (zeroBool _) two om k (seenF (tries e len0) k) rfl M1.out (x.th, x.tx) _ rfl (keyTwo WF.out.1 WF.out.2) (.bool false) HV.out ?_) | (at_mapUpdate; (refine wpList_set_mapG rfl (.tmp 43) (.tmp 44) (.const (.bool true)) 43 rfl 44 4 kTwo two two_inj Try.underlying43 om k (seenF (tries e len0) k) rfl M1.out (by unfold maxLen; omega) (x.th, x.tx) _ rfl (keyTwo WF.out.1 WF.out.2) _ rfl ?_); intro u1 m1 g1; have B1 := Lib.hid (BA.out.grown g1 (by simp; exact hba)); have M2 := Lib.hid m1; have GV1 := Lib.hid (gb_over GV.out g1 (Nat.le_of_eq OM.out)); clear m1 g1; have d0 := B1.out.cell 0; have d1 := B1.out.cell 1) | fail)
        refine (of_right _ a0 len0 cap0 e x.th x.tx (HE3.out.grown GV1.out) HR.out (by omega)).mono ?_
        rintro r u2 ⟨ao, co, os, rfl, OX, O2, O3, g2⟩
        have EO := Lib.hid (sorted_one Tr.b O2.out (of_sorted e len0 _) (O3.out.imp fun h => by omega))
        have CN := Lib.hid (show cov (tries e len0) (k + 1) = cov (tries e len0) k + os.length by
          rw [cov_new _ HT.out HS.out]
          have := congrArg List.length EO.out
          rw [List.length_map] at this
          rw [this])
        have hsum : (cov (tries e len0) k : Int) + (os.length : Int) ≤ 120 := by
          have h1 := CN.out
          have h2 := COV.out (k + 1)
          omega
        have hol : (os.length : Int) ≤ 120 := by omega
        have M3 := Lib.hid (M2.out.grown g2.out (by simp))
        have B2 := Lib.hid (B1.out.grown g2.out (by simp))
        have GV2 := Lib.hid (gb_trans GV1.out g2.out)
        clear O2 O3 M1 M2 BA B1 GV GV1 g2 b0 b1 d0 d1
        go_wp2
        go_loopw [9] (fun jv wr => ∃ j : Nat, j ≤ os.length ∧ jv = .int .i64 j ∧ Hid (u2.grownBy wr none)) (fun jv _ => (os.length - intOf jv).toNat)
        case atStart => exact ⟨0, by omega, rfl, gb_refl _ _⟩
        case round =>
          obtain ⟨j, hj, rfl, G6⟩ := hrel
          by_cases hjl : j < os.length
          · have hjl' : (j : Int) < (os.length : Int) := by omega
            obtain ⟨go, rfl, hgo, fo⟩ := tries_at (OX.out.grown G6.out) (show 0 < os.length by omega)
            obtain ⟨o0, o1, o2, o4⟩ := fo j os[j] (List.getElem?_eq_getElem hjl)
            obtain ⟨n0, n1, n2⟩ := of_nums e HR.out (by omega) x.th x.tx (m := j) (t := os[j].1) (by rw [← EO.out, List.getElem?_map, List.getElem?_eq_getElem hjl]; rfl)
            rw [n0] at o0
            rw [n1] at o1
            rw [n2] at o2
            have b0 := (B2.out.grown G6.out (by simp)).cell 0
            have b1 := (B2.out.grown G6.out (by simp)).cell 1
            by_cases hj0 : 0 < j
            · obtain ⟨i, hi⟩ : ∃ i, j = i + 1 := ⟨j - 1, by omega⟩
              have hil : i < os.length := by omega
              obtain ⟨_, _, _, p4⟩ := fo i os[i] (List.getElem?_eq_getElem hil)
              have hij : (j : Int) - 1 = (i : Int) := by omega
              have hil' : (i : Int) < (os.length : Int) := by omega
              have hlt2 : os[i].1.b < os[j].1.b := by
                have h1 := of_sorted e len0 (fun t => t.th == x.th && t.tx == x.tx)
                rw [← EO.out, List.pairwise_map] at h1
                exact List.pairwise_iff_getElem.1 h1 i j hil hjl (by omega)
              have fb : decide (os[j].1.b ≤ os[i].1.b) = false := by simpa using hlt2
              clear fo n0 n1 n2 hlt2 hi
              generalize os[j].1.b = bj at *
              generalize os[i].1.b = bi at *
              have hj0' : (0 : Int) < (j : Int) := by omega
              go_wp2_with fail
              go_big_quiet (fail)
              go_wp2
              go_roundw
              case rel => exact ⟨j + 1, by omega, by go_num, gb_drewN G6.out _⟩
              case measure => simp [intOf]; omega
            · have fj : decide (0 < j) = false := by simpa using hj0
              clear fo n0 n1 n2
              go_wp2_with fail
              go_big_quiet (fail)
              go_wp2
              go_roundw
              case rel => exact ⟨j + 1, by omega, by go_num, gb_drewN G6.out _⟩
              case measure => simp [intOf]; omega
          · obtain rfl : j = os.length := by omega
            go_wp2
            go_roundw
            case rel => exact ⟨k + 1, by omega, by go_num, by rw [CN.out]; go_num, (M3.out.grown G6.out (by simp)).congr fun y _ _ => seen_upd _ HT.out y, gb_trans GV2.out G6.out⟩
            case measure => simp [intOf]; omega
    · obtain rfl : k = ys.length := by omega
      have HC := Lib.hid (show cov (tries e len0) ys.length = ys.length by rw [YL.out, cov_all])
      rw [HC.out]
      go_wp2
      go_ret
      exact ⟨by simp, gb_below (gb_trans GW.out G.out)⟩

theorem own : ownKnob Try.prog.godebug = none := by kernel_rfl
theorem laidOut : laidOutB Try.prog = true := by kernel_rfl

/-! ### THE ROW's STEP, as the guide has it -/
set_option maxRecDepth 100000 in
theorem lifted (os : Os) (started : os.Started) (H : Type) (enc : TypeId × Value → H) :
    ReturnsInHanded {} Try.checked os 6 .any (Rows.histPartsSpec.pre6 enc Try.prog Try.f6 Rows.histPartsRow.domain false) (Rows.histPartsSpec.post enc Try.prog Try.f6 false true false false) := by
  refine returnsInHanded_of_change (C := Try.checked) own started (by kernel_rfl) Try.func6
    (ChangeSpec.witness6 (enc := enc) (C := Try.checked) false ⟨#[], #[.slice none 0 0], []⟩ 8 (by kernel_rfl) (by kernel_rfl) (by kernel_rfl) (by kernel_rfl)) ?_
  intro W base args ds gs before hval0 hW hcnd _
  have hval : ∀ (j : Nat) t v, Try.f6.params[j]? = some t → args[j]? = some v → Value.okWide Try.prog W .any base t v := hval0
  have hW' := hW
  obtain ⟨p, q, hA0, hV, rfl, hfz, hnd⟩ := hW
  have hA : DataW.TrodAll enc Try.prog W 0 (fun _ => true) true Try.f6.params.toList args.toList ds p := hA0
  rw [Try.params6] at hA hval
  obtain ⟨v0, vs0, d0, ds0, p0, q0, hargs, rfl, rfl, h0, r0⟩ := trodAll_cons hA
  obtain ⟨rfl, rfl, rfl⟩ := trodAll_nil r0
  obtain rfl : args = #[v0] := by cases args; simp_all
  obtain ⟨rfl, rfl⟩ := trodVars_none hV
  obtain ⟨a0, len0, cap0, rfl⟩ := okWide_slice Try.underlying22 (hval 0 22 v0 rfl rfl)
  have k0 := h0
  have lt0 : ∀ x ∈ p0, x.block < W.heap.size := by obtain ⟨m, hm⟩ := k0; exact DataW.trod_lt m _ _ _ hm
  obtain ⟨z0, w0⟩ : ∃ z, IsInts 7 W a0 len0 cap0 z := by
    obtain ⟨fuel, hf⟩ := h0
    exact isMixed_of Try.underlying22 Try.underlying36 Try.underlying3 Try.underlying2 (by kernel_rfl) (by kernel_rfl) (by kernel_rfl) (by decide) (by decide) hf
  clear hA0 hval0
  refine (walk a0 len0 cap0 z0 W w0).mono fun e W' ⟨he, bel⟩ => ?_
  subst he
  exact ⟨_, rfl, _, _, _, [], _, [], hW', trodAll_mk1 (shut_bool Try.underlying4 _), (trodAll_cons_mk (Below.trod laidOut (by kernel_rfl) (of_decide_eq_true (by kernel_rfl)) k0 bel lt0) trodAll_mk0), rfl, bel.frame _, fun h => by cases h⟩

theorem over : Rows.histPartsRow.holds Try.pinned (OpenSpec.ofChange Rows.histPartsSpec) :=
  OpenClaim.holds_of_wide 6 Try.f6 rfl rfl rfl rfl rfl rfl rfl ⟨rfl, rfl, rfl, rfl, rfl⟩ rfl rfl rfl rfl rfl (by kernel_rfl) Try.func6 (by kernel_rfl)
    (of_decide_eq_true (by kernel_rfl)) (by unfold Func.isWrapper; first | (rw [if_pos (by decide +kernel)]; kernel_rfl) | (rw [if_neg (by decide +kernel)]; exact ⟨rfl, rfl⟩))
    (fun os started H enc _ => lifted os started H enc)

theorem proved : Rows.HistPartsSaid := over
#print axioms proved
end Go.Proofs.Ytgnakcahmmdncaa.histParts
