/-
  GateBeats: a pulse is how often its thread beat, others' pulses and the senior play no part, and the sight tells the senior's; for any number of threads, any senior, any list of beats.
  Conditions: none (of a list of more than 200 beats the law says nothing by itself).
-/
import Derived.Test.YtelapiabniabkaaRows
import Derived.Test.YtelapiabniabkaaOpen
import Derived.Test.YtelapiabniabkaaOpenB
import Derived.Test.YtelapiabniabkaaGtC
import Derived.Deep.CutRange
import Derived.Deep.DeepCutAuto
namespace Go.Proofs.Ytelapiabniabkaa.gateBeats
open Go.ChangeShapes Go.WideShapes Go.ChangeAt Go.RowKit Go.Proofs.Ytelapiabniabkaa.base Go.Proofs.Ytelapiabniabkaa.ch Go.Proofs.Ytelapiabniabkaa.gate
set_option linter.unusedVariables false

/-- At the head of a round: k beats were made. -/
def Rel (w : World) (g cb N H : Nat) (s : Int) (len : Nat) (iv : Value) (wr : World) : Prop :=
  ∃ (k : Nat) (z : Nat → Int), k ≤ len ∧ iv = .int .i64 k ∧ (∀ j, 0 ≤ z j ∧ z j ≤ k) ∧ Gt w wr g N true s H z (1 + (k : Int)) [(cb, 59, vals z 6)]

/-- At the head of a round within: j pulses were looked at. -/
def RelIn (w : World) (g cb N H : Nat) (s : Int) (k : Nat) (z : Nat → Int) (iv : Value) (wr : World) : Prop :=
  ∃ (j : Nat), j ≤ N ∧ iv = .int .i64 j ∧ Gt w wr g N true s H z (1 + (k : Int)) [(cb, 59, vals z 6)]

theorem walk_out (a0 a1 a2 : Int) (a3 : Option Addr) (len3 cap3 : Nat) (w : World) (h : 200 < (len3 : Int)) : Calls Try.prog 8 #[.int .u8 a0, .int .u8 a1, .int .u8 a2, .slice a3 len3 cap3] w fun e w' => e = .returned (.bool true) ∧ Below w.heap.size w w' := by
  go_enter Try.func8, Try.ntmps8
  go_wp2_with fail
  refine (alive_any _).mono ?_
  rintro e v1 ⟨rfl, g1⟩
  go_wp2
  go_ret
  exact ⟨rfl, gb_below g1.out⟩

set_option maxRecDepth 100000 in
set_option maxHeartbeats 4000000 in
theorem walkIn (a0 a1 a2 : Int) (a3 : Option Addr) (len3 cap3 : Nat) (z3 : Nat → Int) (w : World) (w3 : IsRow .u8 w a3 len3 cap3 z3) (l0 : 0 ≤ a0) (u0 : a0 ≤ 255) (l1 : 0 ≤ a1) (u1 : a1 ≤ 255) (l2 : 0 ≤ a2) (u2 : a2 ≤ 255) (h : ¬ 200 < (len3 : Int)) : Calls Try.prog 8 #[.int .u8 a0, .int .u8 a1, .int .u8 a2, .slice a3 len3 cap3] w fun e w' => e = .returned (.bool true) ∧ Below w.heap.size w w' := by
  have W3 := Lib.hid w3
  clear w3
  obtain ⟨N, hN⟩ : ∃ N : Nat, 1 + a0 % 6 = (N : Int) := ⟨(1 + a0 % 6).toNat, by omega⟩
  have hn := Lib.hid (show 1 ≤ N ∧ N ≤ 6 by omega)
  have HN := Lib.hid hN
  obtain ⟨H, hH, hHN⟩ : ∃ H : Nat, a1.tmod (N : Int) = (H : Int) ∧ H < N := by
    rw [Int.tmod_eq_emod_of_nonneg l1]
    have e1 := Int.emod_nonneg a1 (show (N : Int) ≠ 0 by omega)
    have e2 := Int.emod_lt_of_pos a1 (show 0 < (N : Int) by omega)
    exact ⟨(a1 % (N : Int)).toNat, by omega, by omega⟩
  have hN0 : ((N : Int) == 0) = false := by simp; omega
  clear hN
  go_enter Try.func8, Try.ntmps8
  go_wp2_with fail
  refine (alive_any _).mono ?_
  rintro e v1 ⟨rfl, g1⟩
  have M1 := Lib.hid ((Own.start w).grown g1.out)
  clear g1
  go_wp2_with fail
  simp only [HN.out]
  refine (new_any N hn.out.1 hn.out.2 w _ [] M1.out).mono ?_
  rintro e v2 ⟨g, rfl, M2⟩
  clear M1
  go_wp2_with fail
  refine (swap_hits 0 a2 H l2 (by omega) (by omega) (by omega) (by omega) _ M2.out).mono ?_
  rintro e v3 ⟨rfl, M3⟩
  have M4 := Lib.hid (M3.out.alloc 59 (vals (fun _ => 0) 6))
  clear M2 M3
  go_wp2
  generalize v3.heap.size = cb at *
  rw [show (Obj.cells #[.int .i64 0, .int .i64 0, .int .i64 0, .int .i64 0, .int .i64 0, .int .i64 0] 59) = Obj.cells ⟨vals (fun _ => 0) 6⟩ 59 from rfl]
  generalize v3.alloc _ = v4 at *
  have M5 := M4
  go_loopw [13] (fun iv wr => Rel w g cb N H a2 len3 iv wr) (fun iv _ => (len3 - intOf iv).toNat)
  case atStart => exact ⟨0, fun _ => 0, by omega, rfl, fun _ => ⟨by simp, by simp⟩, M5.out.le (by omega)⟩
  case round =>
    obtain ⟨k, z, hk, rfl, hz, M0⟩ := hrel
    have M6 := Lib.hid M0
    clear M0 M4
    by_cases hlt : k < len3
    · obtain ⟨_, _, hx | ⟨b2, off2, rfl, hb2, hz2⟩⟩ := W3.out
      · exfalso; omega
      have he : wr.cell? ⟨b2, off2 + k, none⟩ = some (.int .u8 (z3 k)) := M6.out.old (hz2 k hlt).1
      have hlt' : (k : Int) < (len3 : Int) := by omega
      have hb := bounds_u8 (hz2 k hlt).2
      obtain ⟨T, hT, hTN⟩ : ∃ T : Nat, (z3 k).tmod (N : Int) = (T : Int) ∧ T < N := by
        rw [Int.tmod_eq_emod_of_nonneg hb.1]
        have := hn.out
        have e1 := Int.emod_nonneg (z3 k) (show (N : Int) ≠ 0 by omega)
        have e2 := Int.emod_lt_of_pos (z3 k) (show 0 < (N : Int) by omega)
        exact ⟨(z3 k % (N : Int)).toNat, by omega, by omega⟩
      generalize z3 k = n at *
      have hT6 : T < 6 := by have := hn.out; omega
      have hTi : (T : Int) < 6 := by omega
      have ct := M6.out.cell 0 T rfl (vals_get z 6 T hT6)
      have cf := M6.out.free 0 T rfl
      have hzT := hz T
      have hw : IntKind.i64.wrap (z T + 1) = z T + 1 := IntWalk.i64_in _ (by omega)
      have HZ := Lib.hid hz
      clear hz
      go_upto_region 15 with fail
      have M7 := Lib.hid (M6.out.set 0 T (.int .i64 (z T + 1)) rfl)
      simp only [List.set_cons_zero, vals_set] at M7
      generalize wr.setCell ⟨cb, T, none⟩ _ = v5 at *
      clear M6 ct cf he
      go_wp2_with fail
      refine (beat_in T hTN (by omega) (by omega) _ M7.out).mono ?_
      rintro e v6 ⟨rfl, M8⟩
      have HZ2 := Lib.hid (show ∀ j, 0 ≤ (fun j => if j = T then z T + 1 else z j) j ∧ (fun j => if j = T then z T + 1 else z j) j ≤ (k : Int) + 1 by
        intro j
        have := HZ.out j
        dsimp only
        split <;> omega)
      clear M7 HZ hw hzT
      generalize (fun j => if j = T then z T + 1 else z j) = zz at *
      go_wp2
      go_loopw [15] (fun kv wx => RelIn w g cb N H a2 k zz kv wx) (fun kv _ => (N - intOf kv).toNat)
      case atStart => exact ⟨0, by omega, rfl, M8.out⟩
      case round =>
        obtain ⟨j, hj, rfl, M0⟩ := hrel
        have M9 := Lib.hid M0
        clear M0 M8
        by_cases hjl : j < N
        · have hj6 : j < 6 := by have := hn.out; omega
          have hji : (j : Int) < 6 := by omega
          have hjn : (j : Int) < (N : Int) := by omega
          have cj := M9.out.cell 0 j rfl (vals_get zz 6 j hj6)
          have HP := Lib.hid (fun (u : World) (hu : Gt w u g N true a2 H zz (1 + (k : Int)) [(cb, 59, vals zz 6)]) => pulse_in j hjl u hu)
          go_wp2
          go_quiet ((go_at_call 18; refine Calls.quiet_of_same ((HP.out _ (by first | exact M9.out | exact M9.out.drew | exact M9.out.drewN _)).mono fun _ _ h => ⟨h.1, h.2.symm⟩)))
          go_wp2
          go_roundw
          case rel => exact ⟨j + 1, by omega, by go_num, M9.out.drewN _⟩
          case measure => simp [intOf]; omega
        · have hjn : ¬ (j : Int) < (N : Int) := by omega
          have hH6 : H < 6 := by have := hn.out; omega
          have hHi : (H : Int) < 6 := by omega
          have ch := M9.out.cell 0 H rfl (vals_get zz 6 H hH6)
          have HS := Lib.hid (fun (u : World) (hu : Gt w u g N true a2 H zz (1 + (k : Int)) [(cb, 59, vals zz 6)]) => see_some H u hu (by omega))
          go_upto_region 22 with fail
          have hN1 : ¬ (N : Int) = 0 := by have := hn.out; omega
          have hN2 : ¬ N = 0 := by have := hn.out; omega
          have hw1 : IntKind.i64.wrap a1 = a1 := IntWalk.i64_in _ (by omega)
          have hw2 : IntKind.i64.wrap a2 = a2 := IntWalk.i64_in _ (by omega)
          have hwH : IntKind.i64.wrap (H : Int) = H := IntWalk.i64_in _ (by omega)
          go_region_held3 (fun w' => w'.cell? ⟨cb, H, none⟩ = some (.int .i64 (zz H))) (go_keep) ((go_at_call 17; refine (HS.out _ (by first | exact M9.out | exact M9.out.drew | exact M9.out.drewN _)).mono ?_; rintro e v7 ⟨rfl, M10⟩; have ch2 := M10.out.cell 0 H rfl (vals_get zz 6 H hH6)))
          go_wp2
          go_roundw
          case rel => exact ⟨k + 1, zz, by omega, by go_num, fun j => by have := HZ2.out j; omega, M10.out.le (by omega)⟩
          case measure => simp [intOf]; omega
    · go_wp2_with fail
      refine (leave_hit (by omega) _ M6.out).mono ?_
      rintro e v5 ⟨rfl, M7⟩
      go_wp2_with fail
      refine (see_none _ M7.out (by omega)).mono ?_
      rintro e v6 ⟨rfl, M8⟩
      go_wp2
      go_ret
      exact ⟨rfl, M8.out.below⟩

theorem walk (a0 a1 a2 : Int) (a3 : Option Addr) (len3 cap3 : Nat) (z3 : Nat → Int) (w : World) (w0 : (Lit.int .u8 a0).wf = true) (w1 : (Lit.int .u8 a1).wf = true) (w2 : (Lit.int .u8 a2).wf = true) (w3 : IsRow .u8 w a3 len3 cap3 z3) : Calls Try.prog 8 #[.int .u8 a0, .int .u8 a1, .int .u8 a2, .slice a3 len3 cap3] w fun e w' => e = .returned (.bool true) ∧ Below w.heap.size w w' := by
  have := bounds_u8 w0
  have := bounds_u8 w1
  have := bounds_u8 w2
  by_cases h : 200 < (len3 : Int)
  · exact walk_out _ _ _ _ _ _ w h
  · exact walkIn _ _ _ _ _ _ z3 w w3 (by omega) (by omega) (by omega) (by omega) (by omega) (by omega) h

theorem own : ownKnob Try.prog.godebug = none := by kernel_rfl
theorem laidOut : laidOutB Try.prog = true := by kernel_rfl

/-! ### THE ROW's STEP, as the guide has it -/
set_option maxRecDepth 100000 in
theorem lifted (os : Os) (started : os.Started) (H : Type) (enc : TypeId × Value → H) :
    ReturnsInHanded {} Try.checked os 8 .any (Rows.gateBeatsSpec.pre6 enc Try.prog Try.f8 Rows.gateBeatsRow.domain false) (Rows.gateBeatsSpec.post enc Try.prog Try.f8 false true false false) := by
  refine returnsInHanded_of_change (C := Try.checked) own started (by kernel_rfl) Try.func8
    (ChangeSpec.witness6 (enc := enc) (C := Try.checked) false ⟨#[], #[.int .u8 0, .int .u8 0, .int .u8 0, .slice none 0 0], []⟩ 8 (by kernel_rfl) (by kernel_rfl) (by kernel_rfl) (by kernel_rfl)) ?_
  intro W base args ds gs before hval0 hW hcnd _
  have hval : ∀ (j : Nat) t v, Try.f8.params[j]? = some t → args[j]? = some v → Value.okWide Try.prog W .any base t v := hval0
  have hW' := hW
  obtain ⟨p, q, hA0, hV, rfl, hfz, hnd⟩ := hW
  have hA : DataW.TrodAll enc Try.prog W 0 (fun _ => true) true Try.f8.params.toList args.toList ds p := hA0
  rw [Try.params8] at hA hval
  obtain ⟨v0, vs0, d0, ds0, p0, q0, hargs, rfl, rfl, h0, r0⟩ := trodAll_cons hA
  obtain ⟨v1, vs1, d1, ds1, p1, q1, rfl, rfl, rfl, h1, r1⟩ := trodAll_cons r0
  obtain ⟨v2, vs2, d2, ds2, p2, q2, rfl, rfl, rfl, h2, r2⟩ := trodAll_cons r1
  obtain ⟨v3, vs3, d3, ds3, p3, q3, rfl, rfl, rfl, h3, r3⟩ := trodAll_cons r2
  obtain ⟨rfl, rfl, rfl⟩ := trodAll_nil r3
  obtain rfl : args = #[v0, v1, v2, v3] := by cases args; simp_all
  obtain ⟨rfl, rfl⟩ := trodVars_none hV
  obtain ⟨a0, rfl, rfl, rfl, w0⟩ := open_int Try.underlying5 (hval 0 5 v0 rfl rfl) h0
  obtain ⟨a1, rfl, rfl, rfl, w1⟩ := open_int Try.underlying5 (hval 1 5 v1 rfl rfl) h1
  obtain ⟨a2, rfl, rfl, rfl, w2⟩ := open_int Try.underlying5 (hval 2 5 v2 rfl rfl) h2
  obtain ⟨a3, len3, cap3, rfl⟩ := okWide_slice Try.underlying57 (hval 3 57 v3 rfl rfl)
  have k3 := h3
  have lt3 : ∀ x ∈ p3, x.block < W.heap.size := by obtain ⟨m, hm⟩ := k3; exact DataW.trod_lt m _ _ _ hm
  obtain ⟨z3, w3⟩ : ∃ z, IsRow .u8 W a3 len3 cap3 z := by
    obtain ⟨fuel, hf⟩ := h3
    exact isRow_of Try.underlying57 Try.underlying5 (by kernel_rfl) hf
  clear hA0 hval0
  refine (walk a0 a1 a2 a3 len3 cap3 z3 W w0 w1 w2 w3).mono fun e W' ⟨he, bel⟩ => ?_
  subst he
  exact ⟨_, rfl, _, _, _, [], _, [], hW', trodAll_mk1 (shut_bool Try.underlying4 _), (trodAll_cons_mk (shut_int Try.underlying5 w0) (trodAll_cons_mk (shut_int Try.underlying5 w1) (trodAll_cons_mk (shut_int Try.underlying5 w2) (trodAll_cons_mk (Below.trod laidOut (by kernel_rfl) (of_decide_eq_true (by kernel_rfl)) k3 bel lt3) trodAll_mk0)))), rfl, bel.frame _, fun h => by cases h⟩

theorem over : Rows.gateBeatsRow.holds Try.pinned (OpenSpec.ofChange Rows.gateBeatsSpec) :=
  OpenClaim.holds_of_wide 8 Try.f8 rfl rfl rfl rfl rfl rfl rfl ⟨rfl, rfl, rfl, rfl, rfl⟩ rfl rfl rfl rfl rfl (by kernel_rfl) Try.func8 (by kernel_rfl)
    (of_decide_eq_true (by kernel_rfl)) (by unfold Func.isWrapper; first | (rw [if_pos (by decide +kernel)]; kernel_rfl) | (rw [if_neg (by decide +kernel)]; exact ⟨rfl, rfl⟩))
    (fun os started H enc _ => lifted os started H enc)

theorem proved : Rows.GateBeatsSaid := over
#print axioms proved
end Go.Proofs.Ytelapiabniabkaa.gateBeats
