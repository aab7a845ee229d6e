/-
  ModelTells: the states of any trace, from any first values on, and the last one, are the document's, and what was told is one's own; for any first values and any events.
  Conditions: none (of more than 120 events, and of more than 20 values, the law says nothing by itself).
-/
import Derived.Test.YtdohepenmejcaaaRows
import Derived.Test.YtdohepenmejcaaaTells3
import Derived.Deep.QuietTactic
import Derived.Deep.RegionHeld3
import Derived.BigQuiet
namespace Go.Proofs.Ytdohepenmejcaaa.modelTells
open Go.ChangeShapes Go.WideShapes Go.ChangeAt Go.RowKit Go.Proofs.Ytdohepenmejcaaa.base Go.Proofs.Ytdohepenmejcaaa.hs Go.Proofs.Ytdohepenmejcaaa.lg Go.Proofs.Ytdohepenmejcaaa.md
set_option linter.unusedVariables false
set_option maxRecDepth 100000

theorem walk_out (a0 : Option Addr) (len0 cap0 : Nat) (a1 : Option Addr) (len1 cap1 : Nat) (w : World) (h : 120 < (len1 : Int) ∨ 20 < (len0 : Int)) : Calls Try.prog 3 #[.slice a0 len0 cap0, .slice a1 len1 cap1] w fun e w' => e = .returned (.bool true) ∧ Below w.heap.size w w' := by
  by_cases h1 : 120 < (len1 : Int)
  · go_enter Try.func3, Try.ntmps3; go_wp2_with fail; refine (alive_any _).mono ?_; rintro e v1 ⟨rfl, g1⟩; go_wp2; go_ret; exact ⟨rfl, gb_below g1.out⟩
  have q1 : (len1 : Int) ≤ 120 := by omega
  have h2 : 20 < (len0 : Int) := by omega
  go_enter Try.func3, Try.ntmps3; go_wp2_with fail; refine (alive_any _).mono ?_; rintro e v1 ⟨rfl, g1⟩; go_wp2; go_ret; exact ⟨rfl, gb_below g1.out⟩

/-- All numbers of the rows are numbers that may be written, in blocks that are newer than v; all else is as in v. -/
def TI (v : World) (g m n : Nat) (wr : World) : Prop := Below v.heap.size v wr ∧ ∀ i, i < m → ∃ gi ci, wr.cell? ⟨g, i, none⟩ = some (.slice gi n ci) ∧ ∀ k, k < n → ∃ b x, gi = some ⟨b, 0, none⟩ ∧ v.heap.size ≤ b ∧ wr.cell? ⟨b, k, none⟩ = some (.int .i64 x) ∧ wr.frozen? ⟨b, k, none⟩ = false
theorem frozen_set (w : World) (p q : Addr) (u : Value) (h : w.frozen? q = false) : (w.setCell p u).frozen? q = false := by
  rw [World.frozen?_setCell]
  exact h
theorem TI.set {v wr : World} {g m n b k : Nat} {x u : Int} (h : TI v g m n wr) (hb : v.heap.size ≤ b) (hc : wr.cell? ⟨b, k, none⟩ = some (.int .i64 x)) : TI v g m n (wr.setCell ⟨b, k, none⟩ (.int .i64 u)) := by
  have key : ∀ (q : Addr) (y : Value), wr.cell? q = some y → q ≠ ⟨b, k, none⟩ → (wr.setCell ⟨b, k, none⟩ (.int .i64 u)).cell? q = some y := fun q y hq hne => by
    rw [World.cell?_setCell_other _ _ _ _ (fun e => hne e.symm)]
    exact hq
  refine ⟨h.1.grown (gb_setB (gb_refl wr (some b)) (i := k) (.int .i64 u)) h.1.size (fun i e => by cases e; exact hb), fun i hi => ?_⟩
  obtain ⟨gi, ci, h1, h2⟩ := h.2 i hi
  refine ⟨gi, ci, key _ _ h1 (fun e => ?_), fun j hj => ?_⟩
  · rw [e, hc] at h1
    cases h1
  · obtain ⟨b', x', e1, e2, e3, e4⟩ := h2 j hj
    by_cases hq : (⟨b', j, none⟩ : Addr) = ⟨b, k, none⟩
    · refine ⟨b', u, e1, e2, ?_, frozen_set _ _ _ _ e4⟩
      rw [hq]
      exact World.cell?_setCell_same _ _ _ hc
    · exact ⟨b', x', e1, e2, key _ _ e3 hq, frozen_set _ _ _ _ e4⟩
theorem TI.of {v v3 : World} {a : Option Addr} {c n : Nat} {us : List Value} {F : Nat → Nat → Int} (hg : v.grownBy v3 none) (h : v3.ownsRow v.heap.size 22 1 (.slice a us.length c) us.length us) (hu : ∀ i u, us[i]? = some u → RowAt v3 v.heap.size n (F i) u) (h0 : 0 < us.length) : ∃ g, a = some ⟨g, 0, none⟩ ∧ g < v3.heap.size ∧ TI v g us.length n v3 := by
  rcases h.2 with ⟨_, h1⟩ | ⟨g, cap, cur, e, hb, hgg, _⟩
  · omega
  · injection e with e1 e2 e3
    subst e1
    refine ⟨g, rfl, lt_of_block hgg, gb_below hg, fun i hi => ?_⟩
    obtain ⟨ai, ci, e1, hr⟩ := hu i us[i] (List.getElem?_eq_getElem hi)
    refine ⟨ai, ci, ?_, fun k hk => ?_⟩
    · rw [← e1, ← List.getElem?_eq_getElem hi]
      exact h.cellAt i (by omega)
    · rw [e1] at hr
      rcases hr.2 with ⟨_, h1⟩ | ⟨b, cap2, cur2, e4, hb2, hg2, _⟩
      · omega
      · injection e4 with e5 e6 e7
        subst e5
        exact ⟨b, _, rfl, hb2, (hr.cellAt k (by omega)).trans (vals_get _ n k hk), by simp [World.frozen?, hg2]⟩

set_option maxHeartbeats 4000000 in
theorem walk (a0 : Option Addr) (len0 cap0 : Nat) (z0 : Nat → Int) (a1 : Option Addr) (len1 cap1 : Nat) (z1 : Nat → Nat → Int) (w : World) (w0 : IsRow .i64 w a0 len0 cap0 z0) (w1 : IsInts 7 w a1 len1 cap1 z1) : Calls Try.prog 3 #[.slice a0 len0 cap0, .slice a1 len1 cap1] w fun e w' => e = .returned (.bool true) ∧ Below w.heap.size w w' := by
  by_cases hbig : 120 < (len1 : Int) ∨ 20 < (len0 : Int)
  · exact walk_out a0 len0 cap0 a1 len1 cap1 w hbig
  have l0 : (len0 : Int) ≤ 20 := by omega
  have l1 : (len1 : Int) ≤ 120 := by omega
  have HZ := Lib.hid (IsNums.of_row w0)
  have HE := Lib.hid (isEvs_of w1)
  generalize (fun i => (⟨z1 i 0, z1 i 1, z1 i 2, z1 i 3, z1 i 4, z1 i 5, z1 i 6⟩ : Ev)) = e at *
  clear w0 w1 hbig
  have HCL := Lib.hid (cacs_len e len1)
  go_enter Try.func3, Try.ntmps3
  go_wp2_with fail
  refine (alive_any _).mono ?_
  rintro r v1 ⟨rfl, g1⟩
  go_wp2_with fail
  refine (refstates_any a0 len0 cap0 z0 a1 len1 cap1 e _ (HZ.out.grown g1.out) (HE.out.grown g1.out) (by omega) (by omega)).mono ?_
  rintro r v2 ⟨wa, M, wc, rfl, hM, hW, g2⟩
  have G2 := Lib.hid (gb_trans g1.out g2.out)
  go_wp2_with fail
  refine (states_any a0 len0 cap0 z0 a1 len1 cap1 e _ (HZ.out.grown G2.out) (HE.out.grown G2.out) (by omega) (by omega)).mono ?_
  rintro r v3 ⟨xa, xc, us, rfl, xl, g3, xr, xe⟩
  have hMu : M = us.length := hM.out.trans xl.out.symm
  subst hMu
  have SX := Lib.hid (StsAt.of_rows xr.out xe.out)
  have SW2 := Lib.hid hW.out
  have SW := Lib.hid (hW.out.grown g3.out)
  obtain ⟨g, rfl, hgl, hTI⟩ := TI.of g3.out xr.out xe.out (by have := xl.out; omega)
  have HTI := Lib.hid hTI
  have G3 := Lib.hid (gb_trans G2.out g3.out)
  have HXL := Lib.hid xl.out
  obtain ⟨L, hL⟩ : ∃ L, L = (cacs e len1).length := ⟨_, rfl⟩
  have HL := Lib.hid hL
  have hLu : L < us.length := by have := xl.out; omega
  have hul : (us.length : Int) ≤ 121 := by have := xl.out; have := HCL.out; omega
  have hLi : IntKind.i64.wrap ((us.length : Int) - 1) = (L : Int) := by
    have := xl.out
    rw [show (us.length : Int) - 1 = (L : Int) by omega]
    exact IntWalk.i64_in _ (by omega)
  have hLu' : (L : Int) < (us.length : Int) := by omega
  obtain ⟨wb, wo, ai, ci, rfl, hwb, xw, NW⟩ := SW.out.at hLu
  have HNW := Lib.hid NW
  clear xr xe xl hTI hM hW g1 g2 g3 hL NW
  go_wp2_with fail
  have K0 : Hid (v3.grownBy v3.drew none) := Lib.hid (gb_drew (gb_refl v3 none))
  go_region_held3 (fun w' => Hid (v3.grownBy w' none) ∧ w'.cell? ⟨wb, wo + L, none⟩ = some (.slice ai len0 ci)) (go_keep) (first
    | (go_at_call 12; refine (sts_same _ _ us.length len0 xc wc _ _ (SX.out.grown (by refine Hid.out ?_; assumption)) (SW.out.grown (by refine Hid.out ?_; assumption)) (by omega) (by omega)).mono ?_; rintro r u5 ⟨rfl, g5⟩; have K5 : Hid (v3.grownBy u5 none) := Lib.hid (gb_trans (by refine Hid.out ?_; assumption) g5.out); have xw5 := K5.out.cell xw (by simp))
    | (go_at_call 14; refine (last_any a0 len0 cap0 z0 a1 len1 cap1 e _ ((HZ.out.grown G3.out).grown (by refine Hid.out ?_; assumption)) ((HE.out.grown G3.out).grown (by refine Hid.out ?_; assumption)) (by omega) (by omega)).mono ?_; rintro r u6 ⟨la, lc, rfl, hl6, g6⟩; have K6 : Hid (v3.grownBy u6 none) := Lib.hid (gb_trans (by refine Hid.out ?_; assumption) g6.out); have xw6 := K6.out.cell xw (by simp); rw [← HL.out] at hl6)
    | (go_at_call 13; refine (vals_yes _ _ len0 lc ci (stAt z0 (cacs e len1) L) _ hl6.out (HNW.out.grown (by refine Hid.out ?_; assumption)) (by omega)).mono ?_; rintro r u7 ⟨rfl, g7⟩; have K7 : Hid (v3.grownBy u7 none) := Lib.hid (gb_trans (by refine Hid.out ?_; assumption) g7.out); have xw7 := K7.out.cell xw (by simp)))
  have KK : Hid (∃ u, Hid (v3.grownBy u none)) := Lib.hid ⟨_, K0⟩
  have HTI7 := Lib.hid (show TI v2 g us.length len0 u7 from ⟨(bl_none HTI.out.1 K7.out), fun i hi => (by
    obtain ⟨gi, ci, h1, h2⟩ := HTI.out.2 i hi
    refine ⟨gi, ci, K7.out.cell h1 (by simp), fun k hk => ?_⟩
    obtain ⟨b, x, e1, e2, e3, e4⟩ := h2 k hk
    obtain ⟨q1, q2⟩ := gb_cellF K7.out e3 e4 (by simp)
    exact ⟨b, x, e1, e2, q1, q2⟩)⟩)
  clear HTI SX SW HNW xw hLi hLu' hgl
  go_wp2
  go_loopw [7] (fun iv wr => ∃ i : Nat, i ≤ us.length ∧ iv = .int .i64 i ∧ Hid (TI v2 g us.length len0 wr)) (fun iv _ => (us.length - intOf iv).toNat)
  case atStart => exact ⟨0, by omega, rfl, HTI7⟩
  case round =>
    obtain ⟨i, hi, rfl, T⟩ := hrel
    by_cases hlt : i < us.length
    · have hlt' : (i : Int) < (us.length : Int) := by omega
      go_wp2
      go_loopw [8] (fun kv wr => ∃ k : Nat, k ≤ len0 ∧ kv = .int .i64 k ∧ Hid (TI v2 g us.length len0 wr)) (fun kv _ => (len0 - intOf kv).toNat)
      case atStart => exact ⟨0, by omega, rfl, T⟩
      case round =>
        clear T
        obtain ⟨k, hk, rfl, T⟩ := hrel
        obtain ⟨gi, ci, c1, c2⟩ := T.out.2 i hlt
        have hgl := World.block_lt_of_cell? _ _ c1
        by_cases hlk : k < len0
        · have hlk' : (k : Int) < (len0 : Int) := by omega
          have hk6 : (k : Int) < 1000000 := by omega
          obtain ⟨b, x, rfl, hb, d1, f1⟩ := c2 k hlk
          have TS := Lib.hid (T.out.set (u := wrap64 (x + 1)) hb d1)
          clear c2 T
          go_wp2
          go_roundw
          case rel => exact ⟨k + 1, by omega, by go_num, TS⟩
          case measure => simp [intOf]; omega
        · obtain rfl : k = len0 := by omega
          clear c2
          go_wp2
          go_roundw
          case rel => exact ⟨i + 1, by omega, by go_num, T⟩
          case measure => simp [intOf]; omega
    · obtain rfl : i = us.length := by omega
      have B1 := Lib.hid ((gb_below G2.out).trans (bl_weak T.out.1 G2.out.size))
      have SW9 := Lib.hid (SW2.out.below T.out.1)
      go_wp2_with fail
      refine (states_any a0 len0 cap0 z0 a1 len1 cap1 e _ (HZ.out.below B1.out) (HE.out.below B1.out (Nat.le_refl _)) (by omega) (by omega)).mono ?_
      rintro r v8 ⟨ya, yc, vs, rfl, yl, g8, yr, ye⟩
      have SY := Lib.hid (StsAt.of_rows yr.out ye.out)
      have hvs : vs.length = us.length := yl.out.trans HXL.out.symm
      rw [hvs] at SY ⊢
      have SW8 := Lib.hid (SW9.out.grown g8.out)
      clear yr ye hvs yl
      go_wp2_with fail
      refine (sts_same _ _ us.length len0 yc wc _ _ SY.out SW8.out (by omega) (by omega)).mono ?_
      rintro r v9 ⟨rfl, g9⟩
      go_wp2
      go_ret
      exact ⟨rfl, bl_none (bl_none B1.out g8.out) g9.out⟩

theorem own : ownKnob Try.prog.godebug = none := by kernel_rfl
theorem laidOut : laidOutB Try.prog = true := by kernel_rfl

/-! ### THE ROW's STEP, as the guide has it -/
set_option maxRecDepth 100000 in
theorem lifted (os : Os) (started : os.Started) (H : Type) (enc : TypeId × Value → H) :
    ReturnsInHanded {} Try.checked os 3 .any (Rows.modelTellsSpec.pre6 enc Try.prog Try.f3 Rows.modelTellsRow.domain false) (Rows.modelTellsSpec.post enc Try.prog Try.f3 false true false false) := by
  refine returnsInHanded_of_change (C := Try.checked) own started (by kernel_rfl) Try.func3
    (ChangeSpec.witness6 (enc := enc) (C := Try.checked) false ⟨#[], #[.slice none 0 0, .slice none 0 0], []⟩ 8 (by kernel_rfl) (by kernel_rfl) (by kernel_rfl) (by kernel_rfl)) ?_
  intro W base args ds gs before hval0 hW hcnd _
  have hval : ∀ (j : Nat) t v, Try.f3.params[j]? = some t → args[j]? = some v → Value.okWide Try.prog W .any base t v := hval0
  have hW' := hW
  obtain ⟨p, q, hA0, hV, rfl, hfz, hnd⟩ := hW
  have hA : DataW.TrodAll enc Try.prog W 0 (fun _ => true) true Try.f3.params.toList args.toList ds p := hA0
  rw [Try.params3] at hA hval
  obtain ⟨v0, vs0, d0, ds0, p0, q0, hargs, rfl, rfl, h0, r0⟩ := trodAll_cons hA
  obtain ⟨v1, vs1, d1, ds1, p1, q1, rfl, rfl, rfl, h1, r1⟩ := trodAll_cons r0
  obtain ⟨rfl, rfl, rfl⟩ := trodAll_nil r1
  obtain rfl : args = #[v0, v1] := by cases args; simp_all
  obtain ⟨rfl, rfl⟩ := trodVars_none hV
  obtain ⟨a0, len0, cap0, rfl⟩ := okWide_slice Try.underlying22 (hval 0 22 v0 rfl rfl)
  have k0 := h0
  have lt0 : ∀ x ∈ p0, x.block < W.heap.size := by obtain ⟨m, hm⟩ := k0; exact DataW.trod_lt m _ _ _ hm
  obtain ⟨z0, w0⟩ : ∃ z, IsRow .i64 W a0 len0 cap0 z := by
    obtain ⟨fuel, hf⟩ := h0
    exact isRow_of Try.underlying22 Try.underlying2 (by kernel_rfl) hf
  obtain ⟨a1, len1, cap1, rfl⟩ := okWide_slice Try.underlying23 (hval 1 23 v1 rfl rfl)
  have k1 := h1
  have lt1 : ∀ x ∈ p1, x.block < W.heap.size := by obtain ⟨m, hm⟩ := k1; exact DataW.trod_lt m _ _ _ hm
  obtain ⟨z1, w1⟩ : ∃ z, IsInts 7 W a1 len1 cap1 z := by
    obtain ⟨fuel, hf⟩ := h1
    exact isMixed_of Try.underlying23 Try.underlying58 Try.underlying3 Try.underlying2 (by kernel_rfl) (by kernel_rfl) (by kernel_rfl) (by decide) (by decide) hf
  clear hA0 hval0
  refine (walk a0 len0 cap0 z0 a1 len1 cap1 z1 W w0 w1).mono fun e W' ⟨he, bel⟩ => ?_
  subst he
  exact ⟨_, rfl, _, _, _, [], _, [], hW', trodAll_mk1 (shut_bool Try.underlying4 _), (trodAll_cons_mk (Below.trod laidOut (by kernel_rfl) (of_decide_eq_true (by kernel_rfl)) k0 bel lt0) (trodAll_cons_mk (Below.trod laidOut (by kernel_rfl) (of_decide_eq_true (by kernel_rfl)) k1 bel lt1) trodAll_mk0)), rfl, bel.frame _, fun h => by cases h⟩

theorem over : Rows.modelTellsRow.holds Try.pinned (OpenSpec.ofChange Rows.modelTellsSpec) :=
  OpenClaim.holds_of_wide 3 Try.f3 rfl rfl rfl rfl rfl rfl rfl ⟨rfl, rfl, rfl, rfl, rfl⟩ rfl rfl rfl rfl rfl (by kernel_rfl) Try.func3 (by kernel_rfl)
    (of_decide_eq_true (by kernel_rfl)) (by unfold Func.isWrapper; first | (rw [if_pos (by decide +kernel)]; kernel_rfl) | (rw [if_neg (by decide +kernel)]; exact ⟨rfl, rfl⟩))
    (fun os started H enc _ => lifted os started H enc)

theorem proved : Rows.ModelTellsSaid := over
#print axioms proved
end Go.Proofs.Ytdohepenmejcaaa.modelTells
