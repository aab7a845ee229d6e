/-
  ModelBegins: the states of a beginning of a right trace are a beginning of its states, one more than there are commits; for any first values, any events and any length.
  Conditions: none (of more than 120 events, of more than 20 values, and of what isn't right, the law says nothing by itself).
-/
import Derived.Test.YtdohepenmejcaaaRows
import Derived.Test.YtdohepenmejcaaaMb
import Derived.Test.YtdohepenmejcaaaMc
import Derived.Test.YtdohepenmejcaaaHb
import Derived.Test.YtdohepenmejcaaaOpenB
import Derived.Deep.QuietTactic
import Derived.BigQuiet
namespace Go.Proofs.Ytdohepenmejcaaa.modelBegins
open Go.ChangeShapes Go.WideShapes Go.ChangeAt Go.RowKit Go.Proofs.Ytdohepenmejcaaa.base Go.Proofs.Ytdohepenmejcaaa.hs Go.Proofs.Ytdohepenmejcaaa.lg Go.Proofs.Ytdohepenmejcaaa.md
set_option linter.unusedVariables false
set_option maxRecDepth 100000

theorem walk_out (a0 : Option Addr) (len0 cap0 : Nat) (a1 : Option Addr) (len1 cap1 : Nat) (a2 : Int) (w : World) (h : 120 < (len1 : Int) ∨ 20 < (len0 : Int)) : Calls Try.prog 6 #[.slice a0 len0 cap0, .slice a1 len1 cap1, .int .u8 a2] w fun e w' => e = .returned (.bool true) ∧ Below w.heap.size w w' := by
  by_cases h1 : 120 < (len1 : Int)
  · go_enter Try.func6, Try.ntmps6; go_wp2_with fail; refine (alive_any _).mono ?_; rintro e v1 ⟨rfl, g1⟩; go_wp2; go_ret; exact ⟨rfl, gb_below g1.out⟩
  have q1 : (len1 : Int) ≤ 120 := by omega
  have h2 : 20 < (len0 : Int) := by omega
  go_enter Try.func6, Try.ntmps6; go_wp2_with fail; refine (alive_any _).mono ?_; rintro e v1 ⟨rfl, g1⟩; go_wp2; go_ret; exact ⟨rfl, gb_below g1.out⟩

theorem walk_wrong (a0 : Option Addr) (len0 cap0 : Nat) (a1 : Option Addr) (len1 cap1 : Nat) (e : Evs) (a2 : Int) (w : World) (h1 : (len1 : Int) ≤ 120) (h0 : (len0 : Int) ≤ 20) (hl : IsEvs w a1 len1 e) (hr : right e len1 = false) : Calls Try.prog 6 #[.slice a0 len0 cap0, .slice a1 len1 cap1, .int .u8 a2] w fun e w' => e = .returned (.bool true) ∧ Below w.heap.size w w' := by
  have HL := Lib.hid hl
  clear hl
  go_enter Try.func6, Try.ntmps6
  go_wp2_with fail
  refine (alive_any _).mono ?_
  rintro r v1 ⟨rfl, g1⟩
  go_wp2_with fail
  refine (right_any a1 len1 cap1 e _ (HL.out.grown g1.out) (by omega)).mono ?_
  rw [hr]
  rintro r v2 ⟨rfl, g2⟩
  go_wp2
  go_ret
  exact ⟨rfl, gb_below (gb_trans g1.out g2.out)⟩

set_option maxHeartbeats 2000000 in
theorem walk (a0 : Option Addr) (len0 cap0 : Nat) (z0 : Nat → Int) (a1 : Option Addr) (len1 cap1 : Nat) (z1 : Nat → Nat → Int) (a2 : Int) (w : World) (w0 : IsRow .i64 w a0 len0 cap0 z0) (w1 : IsInts 7 w a1 len1 cap1 z1) (w2 : (Lit.int .u8 a2).wf = true) : Calls Try.prog 6 #[.slice a0 len0 cap0, .slice a1 len1 cap1, .int .u8 a2] w fun e w' => e = .returned (.bool true) ∧ Below w.heap.size w w' := by
  by_cases hbig : 120 < (len1 : Int) ∨ 20 < (len0 : Int)
  · exact walk_out a0 len0 cap0 a1 len1 cap1 a2 w hbig
  have l0 : (len0 : Int) ≤ 20 := by omega
  have l1 : (len1 : Int) ≤ 120 := by omega
  have HZ := Lib.hid (IsNums.of_row w0)
  have HE := Lib.hid (isEvs_of w1)
  have hlc : (len1 : Int) ≤ (cap1 : Int) := by have := w1.1; omega
  generalize (fun i => (⟨z1 i 0, z1 i 1, z1 i 2, z1 i 3, z1 i 4, z1 i 5, z1 i 6⟩ : Ev)) = e at *
  clear w0 w1 hbig
  cases hr : right e len1 with
  | false => exact walk_wrong a0 len0 cap0 a1 len1 cap1 e a2 w l1 l0 HE.out hr
  | true =>
  have HR := Lib.hid hr
  clear hr
  obtain ⟨hu0, hu1⟩ := bounds_u8 w2
  clear w2
  obtain ⟨m, hm⟩ : ∃ m : Nat, a2.tmod ((len1 : Int) + 1) = m := ⟨(a2.tmod ((len1 : Int) + 1)).toNat, by have := Int.tmod_nonneg ((len1 : Int) + 1) hu0; omega⟩
  have hml : (m : Int) ≤ (len1 : Int) := by have := Int.tmod_lt_of_pos a2 (show 0 < (len1 : Int) + 1 by omega); omega
  have hml2 : m ≤ len1 := by omega
  obtain ⟨R, hR⟩ := cacs_pre e HR.out hml2
  have HPRE := Lib.hid hR
  have HBF := Lib.hid (cacs_before e HR.out)
  have HCL := Lib.hid (cacs_len e len1)
  clear hR
  go_enter Try.func6, Try.ntmps6
  go_wp2_with fail
  refine (alive_any _).mono ?_
  rintro r v1 ⟨rfl, g1⟩
  have HE1 := Lib.hid (HE.out.grown g1.out)
  go_wp2_with fail
  refine (right_any a1 len1 cap1 e _ HE1.out (by omega)).mono ?_
  rw [HR.out]
  rintro r v2 ⟨rfl, g2⟩
  have G2 := Lib.hid (gb_trans g1.out g2.out)
  have HE2 := Lib.hid (HE1.out.grown g2.out)
  go_wp2_with fail
  refine (states_any a0 len0 cap0 z0 a1 m cap1 e _ (HZ.out.grown G2.out) (HE2.out.less hml2) (by omega) (by omega)).mono ?_
  rintro r v3 ⟨xa, xc, us, rfl, xl, g3, xr, xe⟩
  have SX := Lib.hid (StsAt.of_rows xr.out xe.out)
  have G3 := Lib.hid (gb_trans G2.out g3.out)
  clear xr xe
  go_wp2_with fail
  refine (states_any a0 len0 cap0 z0 a1 len1 cap1 e _ (HZ.out.grown G3.out) (HE.out.grown G3.out) (by omega) (by omega)).mono ?_
  rintro r v4 ⟨ya, yc, vs, rfl, yl, g4, yr, ye⟩
  have hle2 : us.length ≤ vs.length := by
    have h1 := xl.out
    have h2 := yl.out
    rw [HPRE.out, List.length_append] at h2
    omega
  have SY := Lib.hid (((StsAt.of_rows yr.out ye.out).less hle2).congr (G := fun i => stAt z0 (cacs e m) i) (fun i hi => by
    rw [HPRE.out]
    exact stAt_append _ _ _ (by have := xl.out; omega)))
  have SX4 := Lib.hid (SX.out.grown g4.out)
  have G4 := Lib.hid (gb_trans G3.out g4.out)
  have hyc : (vs.length : Int) ≤ (yc : Int) := by have := (row_cap yr.out).1; omega
  have hle : (us.length : Int) ≤ (vs.length : Int) := by omega
  have hvl : (vs.length : Int) ≤ 121 := by have := yl.out; have := HCL.out; omega
  obtain ⟨bn, hbn⟩ : ∃ bn, before e len1 = bn := ⟨_, rfl⟩
  have HBN := Lib.hid hbn
  have heq : ((vs.length : Int) == (bn : Int) + 1) = true := by
    have h1 := yl.out
    rw [HBF.out, hbn] at h1
    simp
    omega
  have hbl : (bn : Int) ≤ 120 := by
    have h1 := HBF.out
    have h2 := HCL.out
    omega
  clear yr ye SX xl yl hle2 hbn
  go_wp2_with fail
  refine (sts_same xa ya us.length len0 xc yc _ _ SX4.out SY.out (by omega) (by omega)).mono ?_
  rintro r v5 ⟨rfl, g5⟩
  have G5 := Lib.hid (gb_trans G4.out g5.out)
  go_wp2_with fail
  refine (before_any _ a1 len1 cap1 e len1 (WalkArith.wf_i64 (by omega)) (HE.out.grown G5.out) (by omega) (by omega)).mono ?_
  rintro r v6 ⟨rfl, g6⟩
  rw [Int.toNat_natCast, Nat.min_self, HBN.out]
  go_wp2
  go_ret
  exact ⟨by simp, gb_below (gb_trans G5.out g6.out)⟩

theorem own : ownKnob Try.prog.godebug = none := by kernel_rfl
theorem laidOut : laidOutB Try.prog = true := by kernel_rfl

/-! ### THE ROW's STEP, as the guide has it -/
set_option maxRecDepth 100000 in
theorem lifted (os : Os) (started : os.Started) (H : Type) (enc : TypeId × Value → H) :
    ReturnsInHanded {} Try.checked os 6 .any (Rows.modelBeginsSpec.pre6 enc Try.prog Try.f6 Rows.modelBeginsRow.domain false) (Rows.modelBeginsSpec.post enc Try.prog Try.f6 false true false false) := by
  refine returnsInHanded_of_change (C := Try.checked) own started (by kernel_rfl) Try.func6
    (ChangeSpec.witness6 (enc := enc) (C := Try.checked) false ⟨#[], #[.slice none 0 0, .slice none 0 0, .int .u8 0], []⟩ 8 (by kernel_rfl) (by kernel_rfl) (by kernel_rfl) (by kernel_rfl)) ?_
  intro W base args ds gs before hval0 hW hcnd _
  have hval : ∀ (j : Nat) t v, Try.f6.params[j]? = some t → args[j]? = some v → Value.okWide Try.prog W .any base t v := hval0
  have hW' := hW
  obtain ⟨p, q, hA0, hV, rfl, hfz, hnd⟩ := hW
  have hA : DataW.TrodAll enc Try.prog W 0 (fun _ => true) true Try.f6.params.toList args.toList ds p := hA0
  rw [Try.params6] at hA hval
  obtain ⟨v0, vs0, d0, ds0, p0, q0, hargs, rfl, rfl, h0, r0⟩ := trodAll_cons hA
  obtain ⟨v1, vs1, d1, ds1, p1, q1, rfl, rfl, rfl, h1, r1⟩ := trodAll_cons r0
  obtain ⟨v2, vs2, d2, ds2, p2, q2, rfl, rfl, rfl, h2, r2⟩ := trodAll_cons r1
  obtain ⟨rfl, rfl, rfl⟩ := trodAll_nil r2
  obtain rfl : args = #[v0, v1, v2] := by cases args; simp_all
  obtain ⟨rfl, rfl⟩ := trodVars_none hV
  obtain ⟨a0, len0, cap0, rfl⟩ := okWide_slice Try.underlying22 (hval 0 22 v0 rfl rfl)
  have k0 := h0
  have lt0 : ∀ x ∈ p0, x.block < W.heap.size := by obtain ⟨m, hm⟩ := k0; exact DataW.trod_lt m _ _ _ hm
  obtain ⟨z0, w0⟩ : ∃ z, IsRow .i64 W a0 len0 cap0 z := by
    obtain ⟨fuel, hf⟩ := h0
    exact isRow_of Try.underlying22 Try.underlying2 (by kernel_rfl) hf
  obtain ⟨a1, len1, cap1, rfl⟩ := okWide_slice Try.underlying23 (hval 1 23 v1 rfl rfl)
  have k1 := h1
  have lt1 : ∀ x ∈ p1, x.block < W.heap.size := by obtain ⟨m, hm⟩ := k1; exact DataW.trod_lt m _ _ _ hm
  obtain ⟨z1, w1⟩ : ∃ z, IsInts 7 W a1 len1 cap1 z := by
    obtain ⟨fuel, hf⟩ := h1
    exact isMixed_of Try.underlying23 Try.underlying58 Try.underlying3 Try.underlying2 (by kernel_rfl) (by kernel_rfl) (by kernel_rfl) (by decide) (by decide) hf
  obtain ⟨a2, rfl, rfl, rfl, w2⟩ := open_int Try.underlying5 (hval 2 5 v2 rfl rfl) h2
  clear hA0 hval0
  refine (walk a0 len0 cap0 z0 a1 len1 cap1 z1 a2 W w0 w1 w2).mono fun e W' ⟨he, bel⟩ => ?_
  subst he
  exact ⟨_, rfl, _, _, _, [], _, [], hW', trodAll_mk1 (shut_bool Try.underlying4 _), (trodAll_cons_mk (Below.trod laidOut (by kernel_rfl) (of_decide_eq_true (by kernel_rfl)) k0 bel lt0) (trodAll_cons_mk (Below.trod laidOut (by kernel_rfl) (of_decide_eq_true (by kernel_rfl)) k1 bel lt1) (trodAll_cons_mk (shut_int Try.underlying5 w2) trodAll_mk0))), rfl, bel.frame _, fun h => by cases h⟩

theorem over : Rows.modelBeginsRow.holds Try.pinned (OpenSpec.ofChange Rows.modelBeginsSpec) :=
  OpenClaim.holds_of_wide 6 Try.f6 rfl rfl rfl rfl rfl rfl rfl ⟨rfl, rfl, rfl, rfl, rfl⟩ rfl rfl rfl rfl rfl (by kernel_rfl) Try.func6 (by kernel_rfl)
    (of_decide_eq_true (by kernel_rfl)) (by unfold Func.isWrapper; first | (rw [if_pos (by decide +kernel)]; kernel_rfl) | (rw [if_neg (by decide +kernel)]; exact ⟨rfl, rfl⟩))
    (fun os started H enc _ => lifted os started H enc)

theorem proved : Rows.ModelBeginsSaid := over
#print axioms proved
end Go.Proofs.Ytdohepenmejcaaa.modelBegins
