/-
  HistTells: whether any trace is right, its tries, those that committed, and those of any transaction, are the document's; for any list of events, any thread and transaction.
  Conditions: none (of more than 120 events the law says nothing by itself).
-/
import Derived.Test.YtgnakcahmmdncaaRows
import Derived.Test.YtgnakcahmmdncaaHb
import Derived.Test.YtgnakcahmmdncaaHu
import Derived.Test.YtgnakcahmmdncaaHw
import Derived.Test.YtgnakcahmmdncaaHn
import Derived.Test.YtgnakcahmmdncaaHe
import Derived.Test.YtgnakcahmmdncaaOpenB
import Derived.Deep.QuietTactic
import Derived.BigQuiet
namespace Go.Proofs.Ytgnakcahmmdncaa.histTells
open Go.ChangeShapes Go.WideShapes Go.ChangeAt Go.RowKit Go.Proofs.Ytgnakcahmmdncaa.base Go.Proofs.Ytgnakcahmmdncaa.hs
set_option linter.unusedVariables false
set_option maxRecDepth 100000

theorem walk_out (a0 : Option Addr) (len0 cap0 : Nat) (a1 a2 : Int) (w : World) (h : 120 < (len0 : Int)) : Calls Try.prog 3 #[.slice a0 len0 cap0, .int .i64 a1, .int .i64 a2] w fun e w' => e = .returned (.bool true) ∧ Below w.heap.size w w' := by
  go_enter Try.func3, Try.ntmps3
  go_wp2_with fail
  refine (alive_any _).mono ?_
  rintro e v1 ⟨rfl, g1⟩
  go_wp2
  go_ret
  exact ⟨rfl, gb_below g1.out⟩

theorem walk_wrong (a0 : Option Addr) (len0 cap0 : Nat) (a1 a2 : Int) (e : Evs) (w : World) (h : len0 ≤ 120) (hl : IsEvs w a0 len0 e) (hr : right e len0 = false) : Calls Try.prog 3 #[.slice a0 len0 cap0, .int .i64 a1, .int .i64 a2] w fun e w' => e = .returned (.bool true) ∧ Below w.heap.size w w' := by
  have HL := Lib.hid hl
  have HR := Lib.hid hr
  have h120 : (len0 : Int) ≤ 120 := by omega
  clear hl hr
  go_enter Try.func3, Try.ntmps3
  go_wp2_with fail
  refine (alive_any _).mono ?_
  rintro r v1 ⟨rfl, g1⟩
  go_wp2_with fail
  refine (right_doc a0 len0 cap0 e _ (HL.out.grown g1.out) (by omega)).mono ?_
  rw [HR.out]
  rintro r v2 ⟨rfl, g2⟩
  have G2 := Lib.hid (gb_trans g1.out g2.out)
  go_wp2_with fail
  refine (right_any a0 len0 cap0 e _ (HL.out.grown G2.out) (by omega)).mono ?_
  rw [HR.out]
  rintro r v3 ⟨rfl, g3⟩
  have G3 := Lib.hid (gb_trans G2.out g3.out)
  go_wp2_with fail
  refine (tries_wrong _ a0 len0 cap0 e (HL.out.grown G3.out) HR.out (by omega)).mono ?_
  rintro r v4 ⟨rfl, g4⟩
  have G4 := Lib.hid (gb_trans G3.out g4.out)
  go_wp2_with fail
  refine (commits_wrong _ a0 len0 cap0 e (HL.out.grown G4.out) HR.out (by omega)).mono ?_
  rintro r v5 ⟨rfl, g5⟩
  have G5 := Lib.hid (gb_trans G4.out g5.out)
  go_wp2_with fail
  refine (of_wrong _ a0 len0 cap0 e a1 a2 (HL.out.grown G5.out) HR.out (by omega)).mono ?_
  rintro r v6 ⟨rfl, g6⟩
  go_wp2
  go_ret
  exact ⟨rfl, gb_below (gb_trans G5.out g6.out)⟩

theorem ac_of (e : Evs) (n : Nat) (t : Tr) (h : t ∈ tries e n) : t.ac.length ≤ n := by
  obtain ⟨b, _, _, rfl⟩ := (tries_mem e n t).1 h
  exact hs.trAt_ac e b n

set_option maxHeartbeats 4000000 in
theorem walk (a0 : Option Addr) (len0 cap0 : Nat) (z0 : Nat → Nat → Int) (a1 a2 : Int) (w : World) (w0 : IsInts 7 w a0 len0 cap0 z0) (w1 : (Lit.int .i64 a1).wf = true) (w2 : (Lit.int .i64 a2).wf = true) : Calls Try.prog 3 #[.slice a0 len0 cap0, .int .i64 a1, .int .i64 a2] w fun e w' => e = .returned (.bool true) ∧ Below w.heap.size w w' := by
  by_cases hbig : 120 < (len0 : Int)
  · exact walk_out a0 len0 cap0 a1 a2 w hbig
  have hle : len0 ≤ 120 := by omega
  have h120 : (len0 : Int) ≤ 120 := by omega
  have HE := Lib.hid (isEvs_of w0)
  generalize (fun i => (⟨z0 i 0, z0 i 1, z0 i 2, z0 i 3, z0 i 4, z0 i 5, z0 i 6⟩ : Ev)) = e at *
  clear w0 w1 w2 hbig
  cases hr : right e len0 with
  | false => exact walk_wrong a0 len0 cap0 a1 a2 e w hle HE.out hr
  | true =>
  have HR := Lib.hid hr
  clear hr
  obtain ⟨i0, hi0, hz00, hz10, hz20⟩ := info_parts infoTryD
  have hi := Lib.hid hi0
  have hz0 := Lib.hid hz00
  have hz1 := Lib.hid hz10
  have hz2 := Lib.hid hz20
  clear hi0 hz00 hz10 hz20
  go_enter Try.func3, Try.ntmps3
  go_wp2_with fail
  refine (alive_any _).mono ?_
  rintro r v1 ⟨rfl, g1⟩
  go_wp2_with fail
  refine (right_doc a0 len0 cap0 e _ (HE.out.grown g1.out) (by omega)).mono ?_
  rw [HR.out]
  rintro r v2 ⟨rfl, g2⟩
  have G2 := Lib.hid (gb_trans g1.out g2.out)
  go_wp2_with fail
  refine (right_any a0 len0 cap0 e _ (HE.out.grown G2.out) (by omega)).mono ?_
  rw [HR.out]
  rintro r v3 ⟨rfl, g3⟩
  have G3 := Lib.hid (gb_trans G2.out g3.out)
  go_wp2_with fail
  refine (tries_doc a0 len0 cap0 e _ (HE.out.grown G3.out) HR.out (by omega)).mono ?_
  rintro r u1 ⟨ta, tc, ts, rfl, HT, HTS, g4⟩
  have G4 := Lib.hid (gb_trans G3.out g4.out)
  clear g1 g2 g3 g4 G2 G3
  have htl : ts.length ≤ 120 := by
    have h9 := congrArg List.length HTS.out
    rw [List.length_map] at h9
    have h8 := tries_n e len0
    omega
  have htl2 : (ts.length : Int) ≤ 120 := by omega
  have HLT := Lib.hid (show ts.length = (tries e len0).length by rw [← HTS.out, List.length_map])
  obtain ⟨p, hp⟩ : ∃ p : Tr → Bool, p = fun t => t.th == a1 && t.tx == a2 := ⟨_, rfl⟩
  have HP := Lib.hid hp
  clear hp
  go_wp2
  go_loopw [9, 10] (fun ov iv wr => ∃ (k : Nat) (ys : List (Tr × Value)) (L : Blks), k ≤ ts.length ∧ iv = .int .i64 k ∧ Hid (Row tvC 9 32 ys ov L) ∧ Hid (base.Own u1 wr L) ∧ Hid (ys.map Prod.fst = ((tries e len0).take k).filter p) ∧ Hid (∀ x ∈ ys, x ∈ ts) ∧ Hid (ys.length ≤ k)) (fun _ iv _ => (ts.length - intOf iv).toNat)
  case atStart => exact ⟨0, [], [], by omega, rfl, Row.nil, base.Own.start u1, rfl, fun x hx => by simp at hx, Nat.zero_le _⟩
  case round =>
    obtain ⟨k, ys, L, hk1, rfl, HROW, HO, HYS, HIN, HN⟩ := hrel
    obtain ⟨oa, oc, rfl⟩ := HROW.out.slice
    by_cases hkl : k < ts.length
    · have hkl' : (k : Int) < (ts.length : Int) := by omega
      have hkx : (tries e len0)[k]? = some ts[k].1 := by rw [← HTS.out, List.getElem?_map, List.getElem?_eq_getElem hkl]; rfl
      obtain ⟨b, off, va, vc, rfl, hb, hx2, HI, q0, q1, q2, q3, q4, q5, q6, q7, q8⟩ := (HT.out.grown HO.out.grow).at (List.getElem?_eq_getElem hkl)
      have hmem : ts[k] ∈ ts := List.getElem_mem hkl
      obtain ⟨t, ht⟩ : ∃ t, t = ts[k].1 := ⟨_, rfl⟩
      rw [← ht] at hkx hx2 q0 q1 q2 q3 q4 q5 q6 q7 q8
      have hpair : ts[k] = (t, .slice va t.ac.length vc) := Prod.ext ht.symm hx2
      rw [hpair] at hmem
      have HMEM := Lib.hid hmem
      have TF := Lib.hid (take_filter (tries e len0) p hkx)
      clear hpair ht hkx hx2 hmem HI
      have HOWN := Lib.hid (HROW.out.owns tvC_len (R := []) (by rw [List.append_nil]; exact HO.out))
      have hyn : ys.length ≤ 1000 := by have := HN.out; omega
      have hsz := HO.out.grow.size
      have hk6 : (k : Int) < 1000000 := by omega
      by_cases h1 : t.th = a1
      · have f1 : (t.th == a1) = true := by simp [h1]
        by_cases h2 : t.tx = a2
        · have f2 : (t.tx == a2) = true := by simp [h2]
          have HF := Lib.hid (show ((tries e len0).take (k + 1)).filter p = ((tries e len0).take k).filter p ++ [t] by rw [TF.out, if_pos (by rw [HP.out]; simp [h1, h2])])
          clear h1 h2 TF
          go_wp2_with (first | (at_builtin; refine wpList_append_at _ rfl (.tmp 62) (.tmp 67) 28 rfl u1.heap.size 32 i0 (.agg #[.int .i64 0, .int .i64 0, .int .i64 0, .int .i64 0, .int .i64 0, .int .i64 0, .int .i64 0, .bool false, .slice none 0 0]) 9 88 Try.underlying28 hi.out hz0.out hz1.out hz2.out rfl (by decide) (.slice oa ys.length oc) ys.length (rows tvC ys) rfl (HOWN.out.alloc _) ⟨wr.heap.size, 0, none⟩ 1 1 (tvC (t, .slice va t.ac.length vc)) rfl rfl (new_cells wr _ _) (by intro u hu; simp [tvC, trC] at hu; rcases hu with rfl | rfl | rfl | rfl | rfl | rfl | rfl | rfl | rfl <;> rfl) (by unfold maxLen; omega) (by omega) (by simp; omega) (by decide) ?_; intro g' c' w5 ho hg hv; obtain ⟨L', r1, r2⟩ := ts_snoc (x := (t, .slice va t.ac.length vc)) HROW.out HO.out ho hg hv; have R1 := Lib.hid r1; have R2 := Lib.hid r2; clear ho hg hv r1 r2) | go_in)
          go_roundw
          case rel => exact ⟨k + 1, ys ++ [(t, .slice va t.ac.length vc)], L', by omega, by go_num, R1, R2, by show _ = _; rw [List.map_append, HYS.out, HF.out]; rfl, in_snoc HIN.out HMEM.out, by show _ ≤ _; rw [List.length_append]; have := HN.out; simp; omega⟩
          case measure => simp [intOf] <;> omega
        · have f2 : (t.tx == a2) = false := by simp [h2]
          have HF := Lib.hid (show ((tries e len0).take (k + 1)).filter p = ((tries e len0).take k).filter p by rw [TF.out, if_neg (by rw [HP.out]; simp [h2]), List.append_nil])
          clear h1 h2 TF
          go_wp2
          go_roundw
          case rel => exact ⟨k + 1, ys, L, by omega, by go_num, HROW, HO, by show _ = _; rw [HYS.out, HF.out], HIN, by show _ ≤ _; have := HN.out; omega⟩
          case measure => simp [intOf] <;> omega
      · have f1 : (t.th == a1) = false := by simp [h1]
        have HF := Lib.hid (show ((tries e len0).take (k + 1)).filter p = ((tries e len0).take k).filter p by rw [TF.out, if_neg (by rw [HP.out]; simp [h1]), List.append_nil])
        clear h1 TF
        go_wp2
        go_roundw
        case rel => exact ⟨k + 1, ys, L, by omega, by go_num, HROW, HO, by show _ = _; rw [HYS.out, HF.out], HIN, by show _ ≤ _; have := HN.out; omega⟩
        case measure => simp [intOf] <;> omega
    · obtain rfl : k = ts.length := by omega
      have G5 := Lib.hid (gb_trans G4.out HO.out.grow)
      have HT5 := Lib.hid (HT.out.grown HO.out.grow)
      obtain ⟨oa2, oc2, hv, HOF0⟩ := TsAt.of_row HROW.out (R := []) (by rw [List.append_nil]; exact HO.out) (fun x hx => HT5.out.2 x (HIN.out x hx))
      cases hv
      have HOF := Lib.hid HOF0
      have HOY := Lib.hid (show ys.map Prod.fst = (tries e len0).filter p by rw [HYS.out, HLT.out, List.take_length])
      clear HOF0 HROW HO HYS HIN HN HT HLT
      go_wp2_with fail
      refine (tries_right _ a0 len0 cap0 e (HE.out.grown G5.out) HR.out (by omega)).mono ?_
      rintro r v6 ⟨x6, c6, y6, rfl, HX6, P6, S6, g6⟩
      have G6 := Lib.hid (gb_trans G5.out g6.out)
      have E6 := Lib.hid (sorted_tries e P6.out S6.out)
      have l6 : y6.length ≤ 100000 := by have h9 := congrArg List.length E6.out; rw [List.length_map] at h9; have := tries_n e len0; omega
      have A6 := Lib.hid (show ∀ x ∈ y6, x.1.ac.length ≤ 100000 from fun x hx => by
        have h1 : x.1 ∈ tries e len0 := by rw [← E6.out]; exact List.mem_map_of_mem hx
        have := ac_of e len0 _ h1
        omega)
      go_wp2_with fail
      refine (alike_any _ x6 ta y6.length c6 tc y6 ts (TsAt.of_isTries HX6.out) (HT5.out.grown g6.out) rfl (by rw [E6.out, HTS.out]) l6 A6.out).mono ?_
      rintro r v7 ⟨rfl, g7⟩
      have G7 := Lib.hid (gb_trans G6.out g7.out)
      have HOF7 := Lib.hid ((HOF.out.grown g6.out).grown g7.out)
      clear HX6 P6 S6 g6 g7 E6 l6 A6 HOF HT5
      go_wp2_with fail
      refine (commits_right _ a0 len0 cap0 e (HE.out.grown G7.out) HR.out (by omega)).mono ?_
      rintro r v8 ⟨x8, c8, y8, rfl, HX8, P8, S8, g8⟩
      have G8 := Lib.hid (gb_trans G7.out g8.out)
      have E8 := Lib.hid (sorted_one Tr.en (P8.out.trans (commsD_perm e HR.out).symm) (commsD_sorted e HR.out) (S8.out.imp fun h => by omega))
      go_wp2_with fail
      refine (comms_doc a0 len0 cap0 e _ (HE.out.grown G8.out) HR.out (by omega)).mono ?_
      rintro r v9 ⟨x9, c9, y9, rfl, HX9, E9, g9⟩
      have G9 := Lib.hid (gb_trans G8.out g9.out)
      have l8 : y8.length ≤ 100000 := by
        have h9 := P8.out.length_eq
        rw [List.length_map] at h9
        have h8 := List.length_filter_le (fun t : Tr => t.co) (tries e len0)
        have := tries_n e len0
        omega
      have A8 := Lib.hid (show ∀ x ∈ y8, x.1.ac.length ≤ 100000 from fun x hx => by
        have h1 : x.1 ∈ (tries e len0).filter fun t => t.co := P8.out.mem_iff.1 (List.mem_map_of_mem hx)
        have := ac_of e len0 _ (List.mem_filter.1 h1).1
        omega)
      go_wp2_with fail
      refine (alike_any _ x8 x9 y8.length c8 c9 y8 y9 ((TsAt.of_isTries HX8.out).grown g9.out) HX9.out rfl (by rw [E8.out, E9.out]) l8 A8.out).mono ?_
      rintro r v10 ⟨rfl, g10⟩
      have G10 := Lib.hid (gb_trans G9.out g10.out)
      have HOF10 := Lib.hid (((HOF7.out.grown g8.out).grown g9.out).grown g10.out)
      clear HX8 P8 S8 g8 g9 g10 E8 E9 l8 A8 HX9 HOF7
      go_wp2_with fail
      refine (of_right _ a0 len0 cap0 e a1 a2 (HE.out.grown G10.out) HR.out (by omega)).mono ?_
      rintro r v11 ⟨x11, c11, y11, rfl, HX11, P11, S11, g11⟩
      have G11 := Lib.hid (gb_trans G10.out g11.out)
      have E11 := Lib.hid (sorted_one Tr.b P11.out (of_sorted e len0 _) (S11.out.imp fun h => by omega))
      have l11 : y11.length ≤ 100000 := by
        have h9 := P11.out.length_eq
        rw [List.length_map] at h9
        have h8 := List.length_filter_le (fun t : Tr => t.th == a1 && t.tx == a2) (tries e len0)
        have := tries_n e len0
        omega
      have A11 := Lib.hid (show ∀ x ∈ y11, x.1.ac.length ≤ 100000 from fun x hx => by
        have h1 : x.1 ∈ (tries e len0).filter fun t => t.th == a1 && t.tx == a2 := P11.out.mem_iff.1 (List.mem_map_of_mem hx)
        have := ac_of e len0 _ (List.mem_filter.1 h1).1
        omega)
      go_wp2_with fail
      refine (alike_any _ x11 oa y11.length c11 oc y11 ys (TsAt.of_isTries HX11.out) (HOF10.out.grown g11.out) rfl (by rw [E11.out, HOY.out, HP.out]) l11 A11.out).mono ?_
      rintro r v12 ⟨rfl, g12⟩
      go_wp2
      go_ret
      exact ⟨rfl, gb_below (gb_trans G11.out g12.out)⟩

theorem own : ownKnob Try.prog.godebug = none := by kernel_rfl
theorem laidOut : laidOutB Try.prog = true := by kernel_rfl

/-! ### THE ROW's STEP, as the guide has it -/
set_option maxRecDepth 100000 in
theorem lifted (os : Os) (started : os.Started) (H : Type) (enc : TypeId × Value → H) :
    ReturnsInHanded {} Try.checked os 3 .any (Rows.histTellsSpec.pre6 enc Try.prog Try.f3 Rows.histTellsRow.domain false) (Rows.histTellsSpec.post enc Try.prog Try.f3 false true false false) := by
  refine returnsInHanded_of_change (C := Try.checked) own started (by kernel_rfl) Try.func3
    (ChangeSpec.witness6 (enc := enc) (C := Try.checked) false ⟨#[], #[.slice none 0 0, .int .i64 0, .int .i64 0], []⟩ 8 (by kernel_rfl) (by kernel_rfl) (by kernel_rfl) (by kernel_rfl)) ?_
  intro W base args ds gs before hval0 hW hcnd _
  have hval : ∀ (j : Nat) t v, Try.f3.params[j]? = some t → args[j]? = some v → Value.okWide Try.prog W .any base t v := hval0
  have hW' := hW
  obtain ⟨p, q, hA0, hV, rfl, hfz, hnd⟩ := hW
  have hA : DataW.TrodAll enc Try.prog W 0 (fun _ => true) true Try.f3.params.toList args.toList ds p := hA0
  rw [Try.params3] at hA hval
  obtain ⟨v0, vs0, d0, ds0, p0, q0, hargs, rfl, rfl, h0, r0⟩ := trodAll_cons hA
  obtain ⟨v1, vs1, d1, ds1, p1, q1, rfl, rfl, rfl, h1, r1⟩ := trodAll_cons r0
  obtain ⟨v2, vs2, d2, ds2, p2, q2, rfl, rfl, rfl, h2, r2⟩ := trodAll_cons r1
  obtain ⟨rfl, rfl, rfl⟩ := trodAll_nil r2
  obtain rfl : args = #[v0, v1, v2] := by cases args; simp_all
  obtain ⟨rfl, rfl⟩ := trodVars_none hV
  obtain ⟨a0, len0, cap0, rfl⟩ := okWide_slice Try.underlying22 (hval 0 22 v0 rfl rfl)
  have k0 := h0
  have lt0 : ∀ x ∈ p0, x.block < W.heap.size := by obtain ⟨m, hm⟩ := k0; exact DataW.trod_lt m _ _ _ hm
  obtain ⟨z0, w0⟩ : ∃ z, IsInts 7 W a0 len0 cap0 z := by
    obtain ⟨fuel, hf⟩ := h0
    exact isMixed_of Try.underlying22 Try.underlying36 Try.underlying3 Try.underlying2 (by kernel_rfl) (by kernel_rfl) (by kernel_rfl) (by decide) (by decide) hf
  obtain ⟨a1, rfl, rfl, rfl, w1⟩ := open_int Try.underlying3 (hval 1 3 v1 rfl rfl) h1
  obtain ⟨a2, rfl, rfl, rfl, w2⟩ := open_int Try.underlying3 (hval 2 3 v2 rfl rfl) h2
  clear hA0 hval0
  refine (walk a0 len0 cap0 z0 a1 a2 W w0 w1 w2).mono fun e W' ⟨he, bel⟩ => ?_
  subst he
  exact ⟨_, rfl, _, _, _, [], _, [], hW', trodAll_mk1 (shut_bool Try.underlying4 _), (trodAll_cons_mk (Below.trod laidOut (by kernel_rfl) (of_decide_eq_true (by kernel_rfl)) k0 bel lt0) (trodAll_cons_mk (shut_int Try.underlying3 w1) (trodAll_cons_mk (shut_int Try.underlying3 w2) trodAll_mk0))), rfl, bel.frame _, fun h => by cases h⟩

theorem over : Rows.histTellsRow.holds Try.pinned (OpenSpec.ofChange Rows.histTellsSpec) :=
  OpenClaim.holds_of_wide 3 Try.f3 rfl rfl rfl rfl rfl rfl rfl ⟨rfl, rfl, rfl, rfl, rfl⟩ rfl rfl rfl rfl rfl (by kernel_rfl) Try.func3 (by kernel_rfl)
    (of_decide_eq_true (by kernel_rfl)) (by unfold Func.isWrapper; first | (rw [if_pos (by decide +kernel)]; kernel_rfl) | (rw [if_neg (by decide +kernel)]; exact ⟨rfl, rfl⟩))
    (fun os started H enc _ => lifted os started H enc)

theorem proved : Rows.HistTellsSaid := over
#print axioms proved
end Go.Proofs.Ytgnakcahmmdncaa.histTells
