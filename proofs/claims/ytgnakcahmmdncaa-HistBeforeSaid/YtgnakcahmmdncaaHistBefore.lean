/-
  HistBefore: how many commits stand ahead of any place is the document's: counted; for any list of events and any place.
  Conditions: none (of more than 500 events the law says nothing by itself).
-/
import Derived.Test.YtgnakcahmmdncaaRows
import Derived.Test.YtgnakcahmmdncaaHb
import Derived.Test.YtgnakcahmmdncaaOpenB
namespace Go.Proofs.Ytgnakcahmmdncaa.histBefore
open Go.ChangeShapes Go.WideShapes Go.ChangeAt Go.RowKit Go.Proofs.Ytgnakcahmmdncaa.base Go.Proofs.Ytgnakcahmmdncaa.hs
set_option linter.unusedVariables false

theorem walk_out (a0 : Option Addr) (len0 cap0 : Nat) (a1 : Int) (w : World) (h : 500 < (len0 : Int)) : Calls Try.prog 4 #[.slice a0 len0 cap0, .int .i64 a1] w fun e w' => e = .returned (.bool true) ∧ Below w.heap.size w w' := by
  go_enter Try.func4, Try.ntmps4
  go_wp2_with fail
  refine (alive_any _).mono ?_
  rintro e v1 ⟨rfl, g1⟩
  go_wp2
  go_ret
  exact ⟨rfl, gb_below g1.out⟩

/-- What is counted ahead of place p till place i. -/
def upto (e : Evs) (p : Nat) : Nat → Nat
  | 0 => 0
  | i + 1 => upto e p i + (if i < p ∧ (e i).k = 5 then 1 else 0)
theorem upto_le (e : Evs) (p : Nat) : ∀ i, upto e p i ≤ i
  | 0 => Nat.le_refl _
  | i + 1 => by have := upto_le e p i; unfold upto; split <;> omega
theorem upto_eq (e : Evs) (p : Nat) : ∀ i, upto e p i = before e (min i p)
  | 0 => by simp [upto, before]
  | i + 1 => by
    rw [upto, upto_eq e p i]
    by_cases h : i < p
    · rw [show min (i + 1) p = i + 1 by omega, show min i p = i by omega, before]
      by_cases h5 : (e i).k = 5
      · rw [if_pos ⟨h, h5⟩, if_pos h5]
      · rw [if_neg (fun x => h5 x.2), if_neg h5]
    · rw [if_neg (fun x => h x.1), show min (i + 1) p = p by omega, show min i p = p by omega]
      rfl

set_option maxHeartbeats 2000000 in
theorem walk (a0 : Option Addr) (len0 cap0 : Nat) (z0 : Nat → Nat → Int) (a1 : Int) (w : World) (w0 : IsInts 7 w a0 len0 cap0 z0) (w1 : (Lit.int .i64 a1).wf = true) : Calls Try.prog 4 #[.slice a0 len0 cap0, .int .i64 a1] w fun e w' => e = .returned (.bool true) ∧ Below w.heap.size w w' := by
  by_cases hbig : 500 < (len0 : Int)
  · exact walk_out a0 len0 cap0 a1 w hbig
  have hle : (len0 : Int) ≤ 500 := by omega
  have HE := Lib.hid (isEvs_of w0)
  have hlc : len0 ≤ cap0 := w0.1
  generalize (fun i => (⟨z0 i 0, z0 i 1, z0 i 2, z0 i 3, z0 i 4, z0 i 5, z0 i 6⟩ : Ev)) = e at *
  have HC := Lib.hid hlc
  have HW := Lib.hid w1
  clear w0 hbig hlc w1
  go_enter Try.func4, Try.ntmps4
  go_wp2_with fail
  refine (alive_any _).mono ?_
  rintro r v1 ⟨rfl, g1⟩
  go_wp2
  go_loopw [5, 6] (fun nv iv wr => ∃ k : Nat, k ≤ len0 ∧ iv = .int .i64 k ∧ nv = .int .i64 (upto e a1.toNat k) ∧ Hid (w.grownBy wr none)) (fun _ iv _ => (len0 - intOf iv).toNat)
  case atStart => exact ⟨0, by omega, rfl, rfl, g1⟩
  case round =>
    obtain ⟨k, hk, rfl, rfl, G⟩ := hrel
    have hbk := upto_le e a1.toNat k
    have hb2 : (upto e a1.toNat k : Int) < 1000 := by omega
    by_cases hlt : k < len0
    · obtain ⟨b0, off, rfl, hb0, c0, c1, c2, c3, c4, c5, c6, we⟩ := (HE.out.grown G.out).at7 hlt
      have hlt' : (k : Int) < (len0 : Int) := by omega
      by_cases hp : (k : Int) < a1
      · by_cases h5 : (e k).k = 5
        · have f5 : ((e k).k == 5) = true := by simp [h5]
          have HB := Lib.hid (show upto e a1.toNat (k + 1) = upto e a1.toNat k + 1 by rw [upto, if_pos ⟨by omega, h5⟩])
          clear h5
          go_wp2
          go_roundw
          case rel => exact ⟨k + 1, by omega, by go_num, by rw [HB.out]; go_num, G⟩
          case measure => simp [intOf]; omega
        · have f5 : ((e k).k == 5) = false := by simp [h5]
          have HB := Lib.hid (show upto e a1.toNat (k + 1) = upto e a1.toNat k by rw [upto, if_neg (fun x => h5 x.2)]; rfl)
          clear h5
          go_wp2
          go_roundw
          case rel => exact ⟨k + 1, by omega, by go_num, by rw [HB.out], G⟩
          case measure => simp [intOf]; omega
      · have HB := Lib.hid (show upto e a1.toNat (k + 1) = upto e a1.toNat k by rw [upto, if_neg (fun x => by have := x.1; omega)]; rfl)
        have hp2 : decide ((k : Int) < a1) = false := by simpa using hp
        go_wp2
        go_roundw
        case rel => exact ⟨k + 1, by omega, by go_num, by rw [HB.out], G⟩
        case measure => simp [intOf]; omega
    · obtain rfl : k = len0 := by omega
      have HB := Lib.hid (upto_eq e a1.toNat k)
      have BA := Lib.hid (before_any wr a0 k cap0 e a1 HW.out (HE.out.grown G.out) HC.out (by omega))
      go_wp2_with fail
      refine BA.out.mono ?_
      rintro r v2 ⟨rfl, g2⟩
      rw [← HB.out]
      go_wp2
      go_ret
      exact ⟨by simp, gb_below (gb_trans G.out g2.out)⟩

theorem own : ownKnob Try.prog.godebug = none := by kernel_rfl
theorem laidOut : laidOutB Try.prog = true := by kernel_rfl

/-! ### THE ROW's STEP, as the guide has it -/
set_option maxRecDepth 100000 in
theorem lifted (os : Os) (started : os.Started) (H : Type) (enc : TypeId × Value → H) :
    ReturnsInHanded {} Try.checked os 4 .any (Rows.histBeforeSpec.pre6 enc Try.prog Try.f4 Rows.histBeforeRow.domain false) (Rows.histBeforeSpec.post enc Try.prog Try.f4 false true false false) := by
  refine returnsInHanded_of_change (C := Try.checked) own started (by kernel_rfl) Try.func4
    (ChangeSpec.witness6 (enc := enc) (C := Try.checked) false ⟨#[], #[.slice none 0 0, .int .i64 0], []⟩ 8 (by kernel_rfl) (by kernel_rfl) (by kernel_rfl) (by kernel_rfl)) ?_
  intro W base args ds gs before hval0 hW hcnd _
  have hval : ∀ (j : Nat) t v, Try.f4.params[j]? = some t → args[j]? = some v → Value.okWide Try.prog W .any base t v := hval0
  have hW' := hW
  obtain ⟨p, q, hA0, hV, rfl, hfz, hnd⟩ := hW
  have hA : DataW.TrodAll enc Try.prog W 0 (fun _ => true) true Try.f4.params.toList args.toList ds p := hA0
  rw [Try.params4] at hA hval
  obtain ⟨v0, vs0, d0, ds0, p0, q0, hargs, rfl, rfl, h0, r0⟩ := trodAll_cons hA
  obtain ⟨v1, vs1, d1, ds1, p1, q1, rfl, rfl, rfl, h1, r1⟩ := trodAll_cons r0
  obtain ⟨rfl, rfl, rfl⟩ := trodAll_nil r1
  obtain rfl : args = #[v0, v1] := by cases args; simp_all
  obtain ⟨rfl, rfl⟩ := trodVars_none hV
  obtain ⟨a0, len0, cap0, rfl⟩ := okWide_slice Try.underlying22 (hval 0 22 v0 rfl rfl)
  have k0 := h0
  have lt0 : ∀ x ∈ p0, x.block < W.heap.size := by obtain ⟨m, hm⟩ := k0; exact DataW.trod_lt m _ _ _ hm
  obtain ⟨z0, w0⟩ : ∃ z, IsInts 7 W a0 len0 cap0 z := by
    obtain ⟨fuel, hf⟩ := h0
    exact isMixed_of Try.underlying22 Try.underlying36 Try.underlying3 Try.underlying2 (by kernel_rfl) (by kernel_rfl) (by kernel_rfl) (by decide) (by decide) hf
  obtain ⟨a1, rfl, rfl, rfl, w1⟩ := open_int Try.underlying3 (hval 1 3 v1 rfl rfl) h1
  clear hA0 hval0
  refine (walk a0 len0 cap0 z0 a1 W w0 w1).mono fun e W' ⟨he, bel⟩ => ?_
  subst he
  exact ⟨_, rfl, _, _, _, [], _, [], hW', trodAll_mk1 (shut_bool Try.underlying4 _), (trodAll_cons_mk (Below.trod laidOut (by kernel_rfl) (of_decide_eq_true (by kernel_rfl)) k0 bel lt0) (trodAll_cons_mk (shut_int Try.underlying3 w1) trodAll_mk0)), rfl, bel.frame _, fun h => by cases h⟩

theorem over : Rows.histBeforeRow.holds Try.pinned (OpenSpec.ofChange Rows.histBeforeSpec) :=
  OpenClaim.holds_of_wide 4 Try.f4 rfl rfl rfl rfl rfl rfl rfl ⟨rfl, rfl, rfl, rfl, rfl⟩ rfl rfl rfl rfl rfl (by kernel_rfl) Try.func4 (by kernel_rfl)
    (of_decide_eq_true (by kernel_rfl)) (by unfold Func.isWrapper; first | (rw [if_pos (by decide +kernel)]; kernel_rfl) | (rw [if_neg (by decide +kernel)]; exact ⟨rfl, rfl⟩))
    (fun os started H enc _ => lifted os started H enc)

theorem proved : Rows.HistBeforeSaid := over
#print axioms proved
end Go.Proofs.Ytgnakcahmmdncaa.histBefore
