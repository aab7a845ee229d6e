/-
  OpaqueChecks: whether any trace is opaque, where its tries are seen, and their order, are the document's; for any first values and any events.
  Conditions: none (of more than 120 events, and of more than 20 values, the law says nothing by itself).
-/
import Derived.Test.YtkidkhjpijjphaaRows
import Derived.Test.YtkidkhjpijjphaaPq
import Derived.Deep.QuietTactic
import Derived.Deep.RegionHeld3
import Derived.BigQuiet
namespace Go.Proofs.Ytkidkhjpijjphaa.opaqueChecks
open Go.ChangeShapes Go.WideShapes Go.ChangeAt Go.RowKit Go.Maps Go.Proofs.Ytkidkhjpijjphaa.base Go.Proofs.Ytkidkhjpijjphaa.hs Go.Proofs.Ytkidkhjpijjphaa.lg Go.Proofs.Ytkidkhjpijjphaa.md Go.Proofs.Ytkidkhjpijjphaa.oq
set_option linter.unusedVariables false
set_option maxRecDepth 100000
set_option linter.unusedSimpArgs false

theorem walk_out (a0 : Option Addr) (len0 cap0 : Nat) (a1 : Option Addr) (len1 cap1 : Nat) (w : World) (h : 120 < (len1 : Int) ∨ 20 < (len0 : Int)) : Calls Try.prog 3 #[.slice a0 len0 cap0, .slice a1 len1 cap1] w fun e w' => e = .returned (.bool true) ∧ Below w.heap.size w w' := by
  by_cases h1 : 120 < (len1 : Int)
  · go_enter Try.func3, Try.ntmps3; go_wp2_with fail; refine (oq.alive_any _).mono ?_; rintro e v1 ⟨rfl, g1⟩; go_wp2; go_ret; exact ⟨rfl, gb_below g1.out⟩
  have q1 : (len1 : Int) ≤ 120 := by omega
  have h2 : 20 < (len0 : Int) := by omega
  go_enter Try.func3, Try.ntmps3; go_wp2_with fail; refine (oq.alive_any _).mono ?_; rintro e v1 ⟨rfl, g1⟩; go_wp2; go_ret; exact ⟨rfl, gb_below g1.out⟩

set_option maxHeartbeats 1000000 in
theorem walk_wrong (a0 : Option Addr) (len0 cap0 : Nat) (a1 : Option Addr) (len1 cap1 : Nat) (e : Evs) (w : World) (h1 : (len1 : Int) ≤ 120) (h0 : (len0 : Int) ≤ 20) (hl : IsEvs w a1 len1 e) (hr : right e len1 = false) : Calls Try.prog 3 #[.slice a0 len0 cap0, .slice a1 len1 cap1] w fun e w' => e = .returned (.bool true) ∧ Below w.heap.size w w' := by
  have HL := Lib.hid hl
  have HR := Lib.hid hr
  clear hl hr
  go_enter Try.func3, Try.ntmps3
  go_wp2_with fail
  refine (oq.alive_any _).mono ?_
  rintro r v1 ⟨rfl, g1⟩
  go_wp2_with fail
  refine (refseen_wrong a0 len0 cap0 a1 len1 cap1 e _ (HL.out.grown g1.out) HR.out (by omega)).mono ?_
  rintro r v2 ⟨rfl, g2⟩
  have G2 := Lib.hid (gb_trans g1.out g2.out)
  go_wp2_with fail
  refine (check_wrong a0 len0 cap0 a1 len1 cap1 e _ (HL.out.grown G2.out) HR.out (by omega)).mono ?_
  rintro r v3 ⟨rfl, g3⟩
  have G3 := Lib.hid (gb_trans G2.out g3.out)
  go_wp2_with fail
  refine (seen_wrong a0 len0 cap0 a1 len1 cap1 e _ (HL.out.grown G3.out) HR.out (by omega)).mono ?_
  rintro r v4 ⟨rfl, g4⟩
  have G4 := Lib.hid (gb_trans G3.out g4.out)
  go_wp2_with fail
  refine (order_wrong a0 len0 cap0 a1 len1 cap1 e _ (HL.out.grown G4.out) HR.out (by omega)).mono ?_
  rintro r v5 ⟨rfl, g5⟩
  have G5 := Lib.hid (gb_trans G4.out g5.out)
  clear g1 g2 g3 g4 g5 G2 G3 G4
  go_wp2
  go_ret
  exact ⟨rfl, gb_below G5.out⟩

set_option maxHeartbeats 4000000 in
theorem walk (a0 : Option Addr) (len0 cap0 : Nat) (z0 : Nat → Int) (a1 : Option Addr) (len1 cap1 : Nat) (z1 : Nat → Nat → Int) (w : World) (w0 : IsRow .i64 w a0 len0 cap0 z0) (w1 : IsInts 7 w a1 len1 cap1 z1) : Calls Try.prog 3 #[.slice a0 len0 cap0, .slice a1 len1 cap1] w fun e w' => e = .returned (.bool true) ∧ Below w.heap.size w w' := by
  by_cases hbig : 120 < (len1 : Int) ∨ 20 < (len0 : Int)
  · exact walk_out a0 len0 cap0 a1 len1 cap1 w hbig
  have l0 : (len0 : Int) ≤ 20 := by omega
  have l1 : (len1 : Int) ≤ 120 := by omega
  have HZ := Lib.hid (IsNums.of_row w0)
  have HZW := Lib.hid (row_wf w0)
  have HE := Lib.hid (isEvs_of w1)
  generalize (fun i => (⟨z1 i 0, z1 i 1, z1 i 2, z1 i 3, z1 i 4, z1 i 5, z1 i 6⟩ : Ev)) = e at *
  clear w0 w1 hbig
  cases hr : right e len1 with
  | false => exact walk_wrong a0 len0 cap0 a1 len1 cap1 e w l1 l0 HE.out hr
  | true =>
  have HR := Lib.hid hr
  clear hr
  have HTN := Lib.hid (tries_n e len1)
  go_enter Try.func3, Try.ntmps3
  go_wp2_with fail
  refine (oq.alive_any _).mono ?_
  rintro r v1 ⟨rfl, g1⟩
  go_wp2_with fail
  refine (refseen_right a0 len0 cap0 z0 a1 len1 cap1 e _ (HZ.out.grown g1.out) (HE.out.grown g1.out) HR.out (by omega) (by omega)).mono ?_
  rintro r v2 ⟨f, hf, g2, hr2⟩
  have G2 := Lib.hid (gb_trans g1.out g2.out)
  rcases hr2 with ⟨k, oa, oc, rfl, hk⟩ | ⟨hall, sa, sc, rfl, hs⟩
  · go_wp2_with fail
    refine (check_right a0 len0 cap0 z0 a1 len1 cap1 e _ (HZ.out.grown G2.out) HZW.out (HE.out.grown G2.out) HR.out (by omega) (by omega)).mono ?_
    rintro r v3 ⟨g, hg, g3, ⟨k2, rfl, hk2⟩ | ⟨hall2, rfl⟩⟩
    rotate_left
    · exact (hg.out.both hf.out hall2.out hk.out).elim
    have hkk := hg.out.first hf.out hk2.out hk.out
    subst hkk
    have G3 := Lib.hid (gb_trans G2.out g3.out)
    go_wp2_with fail
    refine (seen_right a0 len0 cap0 z0 a1 len1 cap1 e _ (HZ.out.grown G3.out) HZW.out (HE.out.grown G3.out) HR.out (by omega) (by omega)).mono ?_
    rintro r v4 ⟨g', hg', g4, ⟨k3, rfl, hk3⟩ | ⟨hall3, sa, sc, rfl, _⟩⟩
    rotate_left
    · exact (hg'.out.both hf.out hall3.out hk.out).elim
    have G4 := Lib.hid (gb_trans G3.out g4.out)
    go_wp2_with fail
    refine (order_right a0 len0 cap0 z0 a1 len1 cap1 e _ (HZ.out.grown G4.out) HZW.out (HE.out.grown G4.out) HR.out (by omega) (by omega)).mono ?_
    rintro r v5 ⟨g'', hg'', g5, ⟨k4, rfl, hk4⟩ | ⟨hall4, ov, xs, rfl, _, _⟩⟩
    rotate_left
    · exact (hg''.out.both hf.out hall4.out hk.out).elim
    have G5 := Lib.hid (gb_trans G4.out g5.out)
    clear g1 g2 g3 g4 g5 G2 G3 G4 hk hk2 hk3 hk4 hf hg hg' hg''
    go_wp2
    go_ret
    exact ⟨rfl, gb_below G5.out⟩
  · go_wp2_with fail
    refine (check_right a0 len0 cap0 z0 a1 len1 cap1 e _ (HZ.out.grown G2.out) HZW.out (HE.out.grown G2.out) HR.out (by omega) (by omega)).mono ?_
    rintro r v3 ⟨g, hg, g3, ⟨k2, rfl, hk2⟩ | ⟨hall2, rfl⟩⟩
    · exact (hf.out.both hg.out hall.out hk2.out).elim
    have G3 := Lib.hid (gb_trans G2.out g3.out)
    go_wp2_with fail
    refine (seen_right a0 len0 cap0 z0 a1 len1 cap1 e _ (HZ.out.grown G3.out) HZW.out (HE.out.grown G3.out) HR.out (by omega) (by omega)).mono ?_
    rintro r v4 ⟨g', hg', g4, ⟨k3, rfl, hk3⟩ | ⟨hall3, pa, pc, rfl, hp⟩⟩
    · exact (hf.out.both hg'.out hall.out hk3.out).elim
    have G4 := Lib.hid (gb_trans G3.out g4.out)
    go_wp2_with fail
    refine (order_right a0 len0 cap0 z0 a1 len1 cap1 e _ (HZ.out.grown G4.out) HZW.out (HE.out.grown G4.out) HR.out (by omega) (by omega)).mono ?_
    rintro r v5 ⟨g'', hg'', g5, ⟨k4, rfl, hk4⟩ | ⟨hall4, ov, xs, rfl, ho, hrow⟩⟩
    · exact (hf.out.both hg''.out hall.out hk4.out).elim
    have G5 := Lib.hid (gb_trans G4.out g5.out)
    obtain ⟨oa, oc, hov⟩ := owns_slice hrow.out
    subst hov
    have NO := Lib.hid (nos_nums hrow.out)
    have NP := Lib.hid (hp.out.grown g5.out)
    have NS := Lib.hid (IsNums.congr (hs.out.grown (gb_trans (gb_trans g3.out g4.out) g5.out)) (hf.out.one hg'.out))
    have OR := Lib.hid (fun u (g : Hid (v5.grownBy u none)) => reforder_any a0 len0 cap0 z0 a1 len1 cap1 e g'' u (HZ.out.grown (gb_trans G5.out g.out)) (HE.out.grown (gb_trans G5.out g.out)) HR.out (by omega) (by omega) hg''.out hall4.out)
    have hxl := ho.out.len
    have hxl6 : xs.length ≤ 100000 := by have := HTN.out; omega
    have htl6 : (tries e len1).length ≤ 100000 := by have := HTN.out; omega
    have HO := Lib.hid ho.out
    clear hxl g1 g2 g3 g4 g5 G2 G3 G4 hf hg hg' hg'' hall hall2 hall3 hall4 hs hp hrow ho
    generalize (tries e len1).length = T at *
    go_wp2_with fail
    refine (ints_yes pa sa T pc sc g' _ NP.out NS.out htl6).mono ?_
    rintro r v6 ⟨rfl, g6⟩
    go_wp2_with fail
    refine (OR.out _ g6).mono ?_
    rintro r v7 ⟨qa, qc, ys, rfl, hoy, hq, g7⟩
    obtain rfl : ys = xs := hoy.out.one HO.out
    have G7 := Lib.hid (gb_trans g6.out g7.out)
    go_wp2_with fail
    refine (ints_yes oa qa ys.length oc qc _ _ (NO.out.grown G7.out) hq.out hxl6).mono ?_
    rintro r v8 ⟨rfl, g8⟩
    go_wp2
    go_ret
    exact ⟨rfl, gb_below (gb_trans G5.out (gb_trans G7.out g8.out))⟩

theorem own : ownKnob Try.prog.godebug = none := by kernel_rfl
theorem laidOut : laidOutB Try.prog = true := by kernel_rfl

/-! ### THE ROW's STEP, as the guide has it -/
set_option maxRecDepth 100000 in
theorem lifted (os : Os) (started : os.Started) (H : Type) (enc : TypeId × Value → H) :
    ReturnsInHanded {} Try.checked os 3 .any (Rows.opaqueChecksSpec.pre6 enc Try.prog Try.f3 Rows.opaqueChecksRow.domain false) (Rows.opaqueChecksSpec.post enc Try.prog Try.f3 false true false false) := by
  refine returnsInHanded_of_change (C := Try.checked) own started (by kernel_rfl) Try.func3
    (ChangeSpec.witness6 (enc := enc) (C := Try.checked) false ⟨#[], #[.slice none 0 0, .slice none 0 0], []⟩ 8 (by kernel_rfl) (by kernel_rfl) (by kernel_rfl) (by kernel_rfl)) ?_
  intro W base args ds gs before hval0 hW hcnd _
  have hval : ∀ (j : Nat) t v, Try.f3.params[j]? = some t → args[j]? = some v → Value.okWide Try.prog W .any base t v := hval0
  have hW' := hW
  obtain ⟨p, q, hA0, hV, rfl, hfz, hnd⟩ := hW
  have hA : DataW.TrodAll enc Try.prog W 0 (fun _ => true) true Try.f3.params.toList args.toList ds p := hA0
  rw [Try.params3] at hA hval
  obtain ⟨v0, vs0, d0, ds0, p0, q0, hargs, rfl, rfl, h0, r0⟩ := trodAll_cons hA
  obtain ⟨v1, vs1, d1, ds1, p1, q1, rfl, rfl, rfl, h1, r1⟩ := trodAll_cons r0
  obtain ⟨rfl, rfl, rfl⟩ := trodAll_nil r1
  obtain rfl : args = #[v0, v1] := by cases args; simp_all
  obtain ⟨rfl, rfl⟩ := trodVars_none hV
  obtain ⟨a0, len0, cap0, rfl⟩ := okWide_slice Try.underlying22 (hval 0 22 v0 rfl rfl)
  have k0 := h0
  have lt0 : ∀ x ∈ p0, x.block < W.heap.size := by obtain ⟨m, hm⟩ := k0; exact DataW.trod_lt m _ _ _ hm
  obtain ⟨z0, w0⟩ : ∃ z, IsRow .i64 W a0 len0 cap0 z := by
    obtain ⟨fuel, hf⟩ := h0
    exact isRow_of Try.underlying22 Try.underlying2 (by kernel_rfl) hf
  obtain ⟨a1, len1, cap1, rfl⟩ := okWide_slice Try.underlying23 (hval 1 23 v1 rfl rfl)
  have k1 := h1
  have lt1 : ∀ x ∈ p1, x.block < W.heap.size := by obtain ⟨m, hm⟩ := k1; exact DataW.trod_lt m _ _ _ hm
  obtain ⟨z1, w1⟩ : ∃ z, IsInts 7 W a1 len1 cap1 z := by
    obtain ⟨fuel, hf⟩ := h1
    exact isMixed_of Try.underlying23 Try.underlying51 Try.underlying3 Try.underlying2 (by kernel_rfl) (by kernel_rfl) (by kernel_rfl) (by decide) (by decide) hf
  clear hA0 hval0
  refine (walk a0 len0 cap0 z0 a1 len1 cap1 z1 W w0 w1).mono fun e W' ⟨he, bel⟩ => ?_
  subst he
  exact ⟨_, rfl, _, _, _, [], _, [], hW', trodAll_mk1 (shut_bool Try.underlying4 _), (trodAll_cons_mk (Below.trod laidOut (by kernel_rfl) (of_decide_eq_true (by kernel_rfl)) k0 bel lt0) (trodAll_cons_mk (Below.trod laidOut (by kernel_rfl) (of_decide_eq_true (by kernel_rfl)) k1 bel lt1) trodAll_mk0)), rfl, bel.frame _, fun h => by cases h⟩

theorem over : Rows.opaqueChecksRow.holds Try.pinned (OpenSpec.ofChange Rows.opaqueChecksSpec) :=
  OpenClaim.holds_of_wide 3 Try.f3 rfl rfl rfl rfl rfl rfl rfl ⟨rfl, rfl, rfl, rfl, rfl⟩ rfl rfl rfl rfl rfl (by kernel_rfl) Try.func3 (by kernel_rfl)
    (of_decide_eq_true (by kernel_rfl)) (by unfold Func.isWrapper; first | (rw [if_pos (by decide +kernel)]; kernel_rfl) | (rw [if_neg (by decide +kernel)]; exact ⟨rfl, rfl⟩))
    (fun os started H enc _ => lifted os started H enc)

theorem proved : Rows.OpaqueChecksSaid := over
#print axioms proved
end Go.Proofs.Ytkidkhjpijjphaa.opaqueChecks
