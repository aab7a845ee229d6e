/-
  OpaqueBegins: of a beginning of an opaque trace the tries that ended there are seen where they are seen in all of it, and one that isn't seen there hasn't ended; for any first values, any events and any length.
  Conditions: none (of more than 120 events, of more than 20 values, and of what isn't seen, the law says nothing by itself).
-/
import Derived.Test.YtkidkhjpijjphaaRows
import Derived.Test.YtkidkhjpijjphaaPk
import Derived.Deep.QuietTactic
import Derived.BigQuiet
namespace Go.Proofs.Ytkidkhjpijjphaa.opaqueBegins
open Go.ChangeShapes Go.WideShapes Go.ChangeAt Go.RowKit Go.Proofs.Ytkidkhjpijjphaa.base Go.Proofs.Ytkidkhjpijjphaa.hs Go.Proofs.Ytkidkhjpijjphaa.lg Go.Proofs.Ytkidkhjpijjphaa.md Go.Proofs.Ytkidkhjpijjphaa.oq
set_option linter.unusedVariables false
set_option maxRecDepth 100000
set_option linter.unusedSimpArgs false

theorem walk_out (a0 : Option Addr) (len0 cap0 : Nat) (a1 : Option Addr) (len1 cap1 : Nat) (a2 : Int) (w : World) (h : 120 < (len1 : Int) ∨ 20 < (len0 : Int)) : Calls Try.prog 6 #[.slice a0 len0 cap0, .slice a1 len1 cap1, .int .u8 a2] w fun e w' => e = .returned (.bool true) ∧ Below w.heap.size w w' := by
  by_cases h1 : 120 < (len1 : Int)
  · go_enter Try.func6, Try.ntmps6; go_wp2_with fail; refine (alive_any _).mono ?_; rintro e v1 ⟨rfl, g1⟩; go_wp2; go_ret; exact ⟨rfl, gb_below g1.out⟩
  have q1 : (len1 : Int) ≤ 120 := by omega
  have h2 : 20 < (len0 : Int) := by omega
  go_enter Try.func6, Try.ntmps6; go_wp2_with fail; refine (alive_any _).mono ?_; rintro e v1 ⟨rfl, g1⟩; go_wp2; go_ret; exact ⟨rfl, gb_below g1.out⟩

theorem walk_wrong (a0 : Option Addr) (len0 cap0 : Nat) (a1 : Option Addr) (len1 cap1 : Nat) (e : Evs) (a2 : Int) (w : World) (h1 : (len1 : Int) ≤ 120) (h0 : (len0 : Int) ≤ 20) (hl : IsEvs w a1 len1 e) (hr : right e len1 = false) : Calls Try.prog 6 #[.slice a0 len0 cap0, .slice a1 len1 cap1, .int .u8 a2] w fun e w' => e = .returned (.bool true) ∧ Below w.heap.size w w' := by
  have HL := Lib.hid hl
  have HR := Lib.hid hr
  clear hl hr
  go_enter Try.func6, Try.ntmps6
  go_wp2_with fail
  refine (alive_any _).mono ?_
  rintro r v1 ⟨rfl, g1⟩
  go_wp2_with fail
  refine (seen_wrong a0 len0 cap0 a1 len1 cap1 e _ (HL.out.grown g1.out) HR.out (by omega)).mono ?_
  rintro r v2 ⟨rfl, g2⟩
  go_wp2
  go_ret
  exact ⟨rfl, gb_below (gb_trans g1.out g2.out)⟩

set_option maxHeartbeats 2000000 in
theorem walk (a0 : Option Addr) (len0 cap0 : Nat) (z0 : Nat → Int) (a1 : Option Addr) (len1 cap1 : Nat) (z1 : Nat → Nat → Int) (a2 : Int) (w : World) (w0 : IsRow .i64 w a0 len0 cap0 z0) (w1 : IsInts 7 w a1 len1 cap1 z1) (w2 : (Lit.int .u8 a2).wf = true) : Calls Try.prog 6 #[.slice a0 len0 cap0, .slice a1 len1 cap1, .int .u8 a2] w fun e w' => e = .returned (.bool true) ∧ Below w.heap.size w w' := by
  by_cases hbig : 120 < (len1 : Int) ∨ 20 < (len0 : Int)
  · exact walk_out a0 len0 cap0 a1 len1 cap1 a2 w hbig
  have l0 : (len0 : Int) ≤ 20 := by omega
  have l1 : (len1 : Int) ≤ 120 := by omega
  have HZ := Lib.hid (IsNums.of_row w0)
  have HZW := Lib.hid (row_wf w0)
  have HE := Lib.hid (isEvs_of w1)
  have hlc : (len1 : Int) ≤ (cap1 : Int) := by have := w1.1; omega
  generalize (fun i => (⟨z1 i 0, z1 i 1, z1 i 2, z1 i 3, z1 i 4, z1 i 5, z1 i 6⟩ : Ev)) = e at *
  clear w0 w1 hbig
  cases hr : right e len1 with
  | false => exact walk_wrong a0 len0 cap0 a1 len1 cap1 e a2 w l1 l0 HE.out hr
  | true =>
  have HR := Lib.hid hr
  clear hr
  obtain ⟨hu0, hu1⟩ := bounds_u8 w2
  clear w2
  obtain ⟨m, hm⟩ : ∃ m : Nat, a2.tmod ((len1 : Int) + 1) = m := ⟨(a2.tmod ((len1 : Int) + 1)).toNat, by have := Int.tmod_nonneg ((len1 : Int) + 1) hu0; omega⟩
  have hml : (m : Int) ≤ (len1 : Int) := by have := Int.tmod_lt_of_pos a2 (show 0 < (len1 : Int) + 1 by omega); omega
  have hml2 : m ≤ len1 := by omega
  have HRM := Lib.hid (right_le e HR.out m hml2)
  have HTL := Lib.hid (tries_len e hml2)
  have HTN := Lib.hid (tries_n e len1)
  go_enter Try.func6, Try.ntmps6
  go_wp2_with fail
  refine (alive_any _).mono ?_
  rintro r v1 ⟨rfl, g1⟩
  go_wp2_with fail
  refine (seen_right a0 len0 cap0 z0 a1 len1 cap1 e _ (HZ.out.grown g1.out) HZW.out (HE.out.grown g1.out) HR.out (by omega) (by omega)).mono ?_
  rintro r v2 ⟨f, hf, g2, ⟨k, rfl, hk⟩ | ⟨hall, sa, sc, rfl, hs⟩⟩
  · go_wp2
    go_ret
    exact ⟨rfl, gb_below (gb_trans g1.out g2.out)⟩
  have G2 := Lib.hid (gb_trans g1.out g2.out)
  clear g1 g2
  go_wp2_with fail
  refine (check_right a0 len0 cap0 z0 a1 m cap1 e _ (HZ.out.grown G2.out) HZW.out ((HE.out.grown G2.out).less hml2) HRM.out (by omega) (by omega)).mono ?_
  rintro r v3 ⟨g, hg, g3, ⟨k, rfl, hk⟩ | ⟨hall2, rfl⟩⟩
  · have G3 := Lib.hid (gb_trans G2.out g3.out)
    go_wp2_with fail
    refine (tries_right _ a1 m cap1 e ((HE.out.grown G3.out).less hml2) HRM.out (by omega)).mono ?_
    rintro r v4 ⟨ta, tc, ys, rfl, it, tp, tw, g4⟩
    have TY := Lib.hid (sorted_tries e tp.out tw.out)
    have TA := Lib.hid (TsAt.of_isTries it.out)
    have G4 := Lib.hid (gb_trans G3.out g4.out)
    have hkl : k < ys.length := by have := hk.out.1; rw [← TY.out, List.length_map] at this; exact this
    have hgk := List.getElem?_eq_getElem hkl
    obtain ⟨tb, off, va, vc, rfl, htb, hv, hl, c0, c1, c2, c3, c4, c5, c6, c7, c8⟩ := TA.out.at hgk
    have hen : ys[k].1.en < 0 := by
      have ht : (tries e m)[k]? = some ys[k].1 := by rw [← TY.out, List.getElem?_map, hgk]; rfl
      by_cases h : 0 ≤ ys[k].1.en
      · exfalso
        have h1 := sees_pre HR.out hml2 hf.out hg.out ht h
        have h2 := hall.out k (Nat.lt_of_lt_of_le hk.out.1 HTL.out)
        exact h2 (h1.symm.trans hk.out.2.1)
      · omega
    have hkl' : (k : Int) < (ys.length : Int) := by omega
    have hk0 : (0 : Int) ≤ (k : Int) := by omega
    generalize ys[k].1.en = en at *
    clear c0 c1 c2 c3 c4 c6 c7 c8 hgk hl hv it tp tw hk hg hf hall hs g3 g4
    go_wp2
    go_ret
    exact ⟨rfl, gb_below G4.out⟩
  · have G3 := Lib.hid (gb_trans G2.out g3.out)
    go_wp2_with fail
    refine (tries_right _ a1 m cap1 e ((HE.out.grown G3.out).less hml2) HRM.out (by omega)).mono ?_
    rintro r v4 ⟨ta, tc, ys, rfl, it, tp, tw, g4⟩
    have TY := Lib.hid (sorted_tries e tp.out tw.out)
    have TA := Lib.hid (TsAt.of_isTries it.out)
    have G4 := Lib.hid (gb_trans G3.out g4.out)
    clear it tp tw
    go_wp2_with fail
    refine (seen_right a0 len0 cap0 z0 a1 m cap1 e _ (HZ.out.grown G4.out) HZW.out ((HE.out.grown G4.out).less hml2) HRM.out (by omega) (by omega)).mono ?_
    rintro r v5 ⟨g', hg', g5, ⟨k, rfl, hk⟩ | ⟨hall3, qa, qc, rfl, hq⟩⟩
    · exact (hg.out.both hg'.out hall2.out hk.out).elim
    have hyl : ys.length = (tries e m).length := by rw [← TY.out, List.length_map]
    have HYL := Lib.hid hyl
    have TA5 := Lib.hid (TA.out.grown g5.out)
    have SP := Lib.hid (hs.out.grown (gb_trans (gb_trans g3.out g4.out) g5.out))
    have SQ := Lib.hid hq.out
    have G5 := Lib.hid (gb_trans G4.out g5.out)
    have HSP := Lib.hid (fun (no : Nat) (t : Tr) (ht : (tries e m)[no]? = some t) (h : 0 ≤ t.en) => sees_pre HR.out hml2 hf.out hg'.out ht h)
    obtain ⟨T, hT⟩ : ∃ T, T = (tries e len1).length := ⟨_, rfl⟩
    have hTl := HTL.out
    have hTn := HTN.out
    rw [← hT] at SP hTl hTn ⊢
    rw [← hyl] at SQ hTl ⊢
    have hTl' : ¬ (T : Int) < (ys.length : Int) := by omega
    clear hg hf hg' hall hall2 hall3 hs hq g3 g4 g5 TA hT hyl hm
    go_wp2_with fail
    go_loopw [15] (fun iv wr => ∃ k : Nat, k ≤ ys.length ∧ iv = .int .i64 k ∧ Hid (v5.grownBy wr none)) (fun iv _ => (ys.length - intOf iv).toNat)
    case atStart => exact ⟨0, by omega, rfl, gb_refl _ _⟩
    case round =>
      obtain ⟨k, hk, rfl, G⟩ := hrel
      by_cases hlt : k < ys.length
      · have hlt' : (k : Int) < (ys.length : Int) := by omega
        have hltT : (k : Int) < (T : Int) := by omega
        have hk6 : (k : Int) < 1000000 := by omega
        have hgk := List.getElem?_eq_getElem hlt
        have HSK := Lib.hid (HSP.out k ys[k].1 (by rw [← TY.out, List.getElem?_map, hgk]; rfl))
        obtain ⟨tb, off, va, vc, rfl, htb, hv, hl, c0, c1, c2, c3, c4, c5, c6, c7, c8⟩ := (TA5.out.grown G.out).at hgk
        obtain ⟨pb, po, rfl, hpb, cp⟩ := (SP.out.grown G.out).at1 (show k < T by omega)
        obtain ⟨qb, qo, rfl, hqb, cq⟩ := (SQ.out.grown G.out).at1 hlt
        generalize ys[k].1.en = en at *
        clear c0 c1 c2 c3 c4 c6 c7 c8 hgk hl hv
        by_cases hen : 0 ≤ en
        · have hgf := HSK.out hen
          rw [hgf] at cq
          generalize f k = fk at *
          clear hgf
          go_wp2_with fail
          go_quiet (fail)
          go_wp2
          go_roundw
          case rel => exact ⟨k + 1, by omega, by go_num, by first | exact gb_drewN G.out _ | exact gb_drew (gb_drewN G.out _)⟩
          case measure => simp [intOf]; omega
        · have hd : decide (0 ≤ en) = false := by simp; omega
          clear hen
          go_wp2_with fail
          go_quiet (fail)
          go_wp2
          go_roundw
          case rel => exact ⟨k + 1, by omega, by go_num, by first | exact gb_drewN G.out _ | exact gb_drew (gb_drewN G.out _)⟩
          case measure => simp [intOf]; omega
      · obtain rfl : k = ys.length := by omega
        go_wp2
        go_ret
        exact ⟨rfl, gb_below (gb_trans G5.out G.out)⟩

theorem own : ownKnob Try.prog.godebug = none := by kernel_rfl
theorem laidOut : laidOutB Try.prog = true := by kernel_rfl

/-! ### THE ROW's STEP, as the guide has it -/
set_option maxRecDepth 100000 in
theorem lifted (os : Os) (started : os.Started) (H : Type) (enc : TypeId × Value → H) :
    ReturnsInHanded {} Try.checked os 6 .any (Rows.opaqueBeginsSpec.pre6 enc Try.prog Try.f6 Rows.opaqueBeginsRow.domain false) (Rows.opaqueBeginsSpec.post enc Try.prog Try.f6 false true false false) := by
  refine returnsInHanded_of_change (C := Try.checked) own started (by kernel_rfl) Try.func6
    (ChangeSpec.witness6 (enc := enc) (C := Try.checked) false ⟨#[], #[.slice none 0 0, .slice none 0 0, .int .u8 0], []⟩ 8 (by kernel_rfl) (by kernel_rfl) (by kernel_rfl) (by kernel_rfl)) ?_
  intro W base args ds gs before hval0 hW hcnd _
  have hval : ∀ (j : Nat) t v, Try.f6.params[j]? = some t → args[j]? = some v → Value.okWide Try.prog W .any base t v := hval0
  have hW' := hW
  obtain ⟨p, q, hA0, hV, rfl, hfz, hnd⟩ := hW
  have hA : DataW.TrodAll enc Try.prog W 0 (fun _ => true) true Try.f6.params.toList args.toList ds p := hA0
  rw [Try.params6] at hA hval
  obtain ⟨v0, vs0, d0, ds0, p0, q0, hargs, rfl, rfl, h0, r0⟩ := trodAll_cons hA
  obtain ⟨v1, vs1, d1, ds1, p1, q1, rfl, rfl, rfl, h1, r1⟩ := trodAll_cons r0
  obtain ⟨v2, vs2, d2, ds2, p2, q2, rfl, rfl, rfl, h2, r2⟩ := trodAll_cons r1
  obtain ⟨rfl, rfl, rfl⟩ := trodAll_nil r2
  obtain rfl : args = #[v0, v1, v2] := by cases args; simp_all
  obtain ⟨rfl, rfl⟩ := trodVars_none hV
  obtain ⟨a0, len0, cap0, rfl⟩ := okWide_slice Try.underlying22 (hval 0 22 v0 rfl rfl)
  have k0 := h0
  have lt0 : ∀ x ∈ p0, x.block < W.heap.size := by obtain ⟨m, hm⟩ := k0; exact DataW.trod_lt m _ _ _ hm
  obtain ⟨z0, w0⟩ : ∃ z, IsRow .i64 W a0 len0 cap0 z := by
    obtain ⟨fuel, hf⟩ := h0
    exact isRow_of Try.underlying22 Try.underlying2 (by kernel_rfl) hf
  obtain ⟨a1, len1, cap1, rfl⟩ := okWide_slice Try.underlying23 (hval 1 23 v1 rfl rfl)
  have k1 := h1
  have lt1 : ∀ x ∈ p1, x.block < W.heap.size := by obtain ⟨m, hm⟩ := k1; exact DataW.trod_lt m _ _ _ hm
  obtain ⟨z1, w1⟩ : ∃ z, IsInts 7 W a1 len1 cap1 z := by
    obtain ⟨fuel, hf⟩ := h1
    exact isMixed_of Try.underlying23 Try.underlying51 Try.underlying3 Try.underlying2 (by kernel_rfl) (by kernel_rfl) (by kernel_rfl) (by decide) (by decide) hf
  obtain ⟨a2, rfl, rfl, rfl, w2⟩ := open_int Try.underlying5 (hval 2 5 v2 rfl rfl) h2
  clear hA0 hval0
  refine (walk a0 len0 cap0 z0 a1 len1 cap1 z1 a2 W w0 w1 w2).mono fun e W' ⟨he, bel⟩ => ?_
  subst he
  exact ⟨_, rfl, _, _, _, [], _, [], hW', trodAll_mk1 (shut_bool Try.underlying4 _), (trodAll_cons_mk (Below.trod laidOut (by kernel_rfl) (of_decide_eq_true (by kernel_rfl)) k0 bel lt0) (trodAll_cons_mk (Below.trod laidOut (by kernel_rfl) (of_decide_eq_true (by kernel_rfl)) k1 bel lt1) (trodAll_cons_mk (shut_int Try.underlying5 w2) trodAll_mk0))), rfl, bel.frame _, fun h => by cases h⟩

theorem over : Rows.opaqueBeginsRow.holds Try.pinned (OpenSpec.ofChange Rows.opaqueBeginsSpec) :=
  OpenClaim.holds_of_wide 6 Try.f6 rfl rfl rfl rfl rfl rfl rfl ⟨rfl, rfl, rfl, rfl, rfl⟩ rfl rfl rfl rfl rfl (by kernel_rfl) Try.func6 (by kernel_rfl)
    (of_decide_eq_true (by kernel_rfl)) (by unfold Func.isWrapper; first | (rw [if_pos (by decide +kernel)]; kernel_rfl) | (rw [if_neg (by decide +kernel)]; exact ⟨rfl, rfl⟩))
    (fun os started H enc _ => lifted os started H enc)

theorem proved : Rows.OpaqueBeginsSaid := over
#print axioms proved
end Go.Proofs.Ytkidkhjpijjphaa.opaqueBegins
