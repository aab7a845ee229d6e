/-
  DescOnce: of all that turn a descriptor, to whatever, just the first one that may does, its status is from then on what it was turned to, and it is raised only as long as it is active; for any list of what it is to be turned to.
  Conditions: none (of a list of more than 200 the law says nothing by itself).
-/
import Derived.Test.YtpllfichmpappaaRows
import Derived.Test.YtpllfichmpappaaOpen
import Derived.Test.YtpllfichmpappaaMade03
namespace Go.Proofs.Ytpllfichmpappaa.descOnce
open Go.ChangeShapes Go.WideShapes Go.ChangeAt Go.RowKit Go.Proofs.Ytpllfichmpappaa.base Go.Proofs.Ytpllfichmpappaa.ar Go.Proofs.Ytpllfichmpappaa.ds
set_option linter.unusedVariables false

/-- At the head of a round: k turns were tried; won is the status. -/
def Rel (w : World) (tb mb ab : Nat) (is : Int → Bool) (blk : Int → Nat → Nat) (len : Nat) (won i : Value) (wr : World) : Prop :=
  ∃ (k : Nat) (s : Int) (num : Int → Nat → Int) (B : Int), k ≤ len ∧ i = .int .i64 k ∧ won = .int .i64 s ∧ num 0 0 = s ∧ (0 ≤ num 0 1 ∧ num 0 1 ≤ 5 + k) ∧ (0 ≤ B ∧ B ≤ 4 * k) ∧ Tab w.heap.size wr tb mb ab 1 is blk num B ∧ Below w.heap.size w wr

theorem walk_long (a0 : Option Addr) (len0 cap0 : Nat) (w : World) (h : 200 < (len0 : Int)) :
    Calls Try.prog 3 #[.slice a0 len0 cap0] w fun e w' => e = .returned (.bool true) ∧ Below w.heap.size w w' := by
  go_enter Try.func3, Try.ntmps3
  go_wp2_with fail
  refine (alive_any _).mono ?_
  rintro e v1 ⟨rfl, B1⟩
  go_wp2
  go_ret
  exact ⟨rfl, B1.out⟩

set_option maxRecDepth 100000 in
set_option maxHeartbeats 2000000 in
theorem walk_short (a0 : Option Addr) (len0 cap0 : Nat) (z0 : Nat → Int) (w : World) (w0 : IsRow .i8 w a0 len0 cap0 z0) (h0 : ¬ 200 < (len0 : Int)) :
    Calls Try.prog 3 #[.slice a0 len0 cap0] w fun e w' => e = .returned (.bool true) ∧ Below w.heap.size w w' := by
  have W0 := Lib.hid w0
  clear w0
  go_enter Try.func3, Try.ntmps3
  go_wp2_with fail
  refine (alive_any _).mono ?_
  rintro e v1 ⟨rfl, B1⟩
  go_wp2_with fail
  refine (made_any w.heap.size 3 (by omega) (by omega) v1 B1.out.size).mono ?_
  rintro e v2 ⟨ab, tb, mb, rfl, A2, T2, g2⟩
  have B2 := Lib.hid (bl_none B1.out g2.out)
  clear B1 g2
  go_wp2_with fail
  refine (begin_at w.heap.size tb mb ab 0 _ _ _ 0 v2 T2.out (by omega) 1 2 3 4 5 3 [] none A2.out 0 rfl (by omega) (by omega) (by omega) rfl (by omega)).mono ?_
  rintro e v3 ⟨r3, is, blk, num, rfl, A3, T3, F3, _, b3⟩
  have B3 := Lib.hid (B2.out.trans b3.out)
  obtain ⟨i0, n0, n1, _⟩ := F3.out
  have hi : Hid (is 0 = true) := i0
  have hn0 : Hid (num 0 0 = 1) := n0
  have hn1 : Hid (num 0 1 = 5) := n1
  clear i0 n0 n1 F3 A3 A2 T2 B2 b3
  go_wp2_with fail
  go_loopw [7, 8] (fun won i wr => Rel w tb mb ab is blk len0 won i wr) (fun _ i _ => (len0 - intOf i).toNat)
  case atStart => exact ⟨0, 1, num, 0, by omega, rfl, rfl, hn0.out, by rw [hn1.out]; omega, by omega, T3.out, B3.out⟩
  case round =>
    clear T3 B3 hn0 hn1
    obtain ⟨k, s, num, A, hk, rfl, rfl, hs0, hp0, hA, T0, B0⟩ := hrel
    have T := Lib.hid T0
    have B := Lib.hid B0
    have hs := Lib.hid hs0
    have hp := Lib.hid hp0
    have hA' := Lib.hid hA
    clear T0 B0 hs0 hp0 hA
    by_cases hlt : k < len0
    · obtain ⟨_, _, h | ⟨b2, off2, rfl, hb2, hz⟩⟩ := W0.out
      · exfalso; omega
      have hcell := (B.out.cell (p := ⟨b2, off2 + k, none⟩) hb2).trans (hz k hlt).1
      have htw := Lib.hid (hz k hlt).2
      clear hz hb2
      generalize z0 k = t at *
      have hlt' : (k : Int) < (len0 : Int) := by omega
      have hcv : IntKind.i64.wrap t = t := IntWalk.i64_in _ (by have := bounds_i8 htw.out; omega)
      by_cases hs1 : s = 1
      · subst hs1
        by_cases ht : t = 2 ∨ t = 3
        · have h20 : ((2 : Int) == 1) = false := rfl
          rcases ht with rfl | rfl
          all_goals
            go_wp2_with fail
            refine (turn_hit w.heap.size tb mb ab 1 is blk num A wr 0 T.out _ hi.out rfl (by have := hA'.out; omega) hs.out (by omega)).mono ?_
            rintro e u1 ⟨rfl, T1, g1⟩
            have B1 := Lib.hid (T.out.low1 hi.out (by omega) B.out g1.out)
            clear T g1 B
            go_wp2_with fail
            refine (status_hit w.heap.size tb mb ab 1 is blk _ _ u1 0 T1.out hi.out rfl (by have := hA'.out; omega)).mono ?_
            rw [upd_hit]
            rintro e u2 ⟨rfl, T2, g2⟩
            have B2 := Lib.hid (T1.out.low1 hi.out (by omega) B1.out g2.out)
            clear T1 g2 B1
            go_wp2_with fail
            refine (raise_gone w.heap.size tb mb ab 1 is blk _ _ u2 0 T2.out hi.out rfl (by have := hA'.out; omega) (by rw [upd_hit]; rfl)).mono ?_
            rintro e u3 ⟨rfl, T3, g3⟩
            have B3 := Lib.hid (T2.out.low1 hi.out (by omega) B2.out g3.out)
            clear T2 g3 B2
            go_wp2
            go_roundw
            case rel => exact ⟨k + 1, _, _, _, by omega, by go_num, rfl, upd_hit _ _ _ _, by rw [upd_other _ _ _ _ _ _ (.inr (by omega))]; have := hp.out; omega, by have := hA'.out; omega, T3.out, B3.out⟩
            case measure => simp [intOf]; omega
        · have ht2 : (t == 2) = false := by simp; omega
          have ht3 : (t == 3) = false := by simp; omega
          have htt : Hid (t ≠ 2 ∧ t ≠ 3) := (by omega : t ≠ 2 ∧ t ≠ 3)
          clear ht
          go_wp2_with fail
          refine (turn_bad _ 0 t wr htt.out).mono ?_
          rintro e u1 ⟨rfl, g1⟩
          have T1 := Lib.hid (T.out.grown g1.out)
          have B1 := Lib.hid (bl_none B.out g1.out)
          clear T g1 B
          go_wp2_with fail
          refine (status_hit w.heap.size tb mb ab 1 is blk num _ u1 0 T1.out hi.out rfl (by have := hA'.out; omega)).mono ?_
          rw [hs.out]
          rintro e u2 ⟨rfl, T2, g2⟩
          have B2 := Lib.hid (T1.out.low1 hi.out (by omega) B1.out g2.out)
          clear T1 g2 B1
          go_wp2_with fail
          refine (raise_hit w.heap.size tb mb ab 1 is blk num _ u2 0 T2.out hi.out rfl (by have := hA'.out; omega) hs.out (by have := hp.out; omega)).mono ?_
          rintro e u3 ⟨rfl, T3, o3⟩
          have B3 := Lib.hid (T2.out.low2 hi.out (by omega) (by omega) B2.out o3.out)
          clear T2 o3 B2
          go_wp2
          go_roundw
          case rel => exact ⟨k + 1, 1, _, _, by omega, by go_num, rfl, (upd_other _ _ _ _ _ _ (.inr (by omega))).trans hs.out, by rw [upd_hit]; have := hp.out; omega, by have := hA'.out; omega, T3.out, B3.out⟩
          case measure => simp [intOf]; omega
      · have hs1' : (s == 1) = false := by simpa using hs1
        have hsn : Hid ((num 0 0 == 1) = false) := by rw [hs.out]; exact hs1'
        clear hs1
        by_cases ht : t = 2 ∨ t = 3
        · have htt := Lib.hid ht
          clear ht
          go_wp2_with fail
          refine (turn_gone w.heap.size tb mb ab 1 is blk num A wr 0 T.out t hi.out rfl (by have := hA'.out; omega) hsn.out htt.out).mono ?_
          rintro e u1 ⟨rfl, T1', g1⟩
          have T1 := Lib.hid (upd_self num 0 0 ▸ T1'.out)
          have B1 := Lib.hid (T.out.low1 hi.out (by omega) B.out g1.out)
          clear T g1 B T1'
          go_wp2_with fail
          refine (status_hit w.heap.size tb mb ab 1 is blk num _ u1 0 T1.out hi.out rfl (by have := hA'.out; omega)).mono ?_
          rw [hs.out]
          rintro e u2 ⟨rfl, T2, g2⟩
          have B2 := Lib.hid (T1.out.low1 hi.out (by omega) B1.out g2.out)
          clear T1 g2 B1
          go_wp2_with fail
          refine (raise_gone w.heap.size tb mb ab 1 is blk num _ u2 0 T2.out hi.out rfl (by have := hA'.out; omega) hsn.out).mono ?_
          rintro e u3 ⟨rfl, T3, g3⟩
          have B3 := Lib.hid (T2.out.low1 hi.out (by omega) B2.out g3.out)
          clear T2 g3 B2
          go_wp2
          go_roundw
          case rel => exact ⟨k + 1, s, num, _, by omega, by go_num, rfl, hs.out, by have := hp.out; omega, by have := hA'.out; omega, T3.out, B3.out⟩
          case measure => simp [intOf]; omega
        · have htt : Hid (t ≠ 2 ∧ t ≠ 3) := (by omega : t ≠ 2 ∧ t ≠ 3)
          clear ht
          go_wp2_with fail
          refine (turn_bad _ 0 t wr htt.out).mono ?_
          rintro e u1 ⟨rfl, g1⟩
          have T1 := Lib.hid (T.out.grown g1.out)
          have B1 := Lib.hid (bl_none B.out g1.out)
          clear T g1 B
          go_wp2_with fail
          refine (status_hit w.heap.size tb mb ab 1 is blk num _ u1 0 T1.out hi.out rfl (by have := hA'.out; omega)).mono ?_
          rw [hs.out]
          rintro e u2 ⟨rfl, T2, g2⟩
          have B2 := Lib.hid (T1.out.low1 hi.out (by omega) B1.out g2.out)
          clear T1 g2 B1
          go_wp2_with fail
          refine (raise_gone w.heap.size tb mb ab 1 is blk num _ u2 0 T2.out hi.out rfl (by have := hA'.out; omega) hsn.out).mono ?_
          rintro e u3 ⟨rfl, T3, g3⟩
          have B3 := Lib.hid (T2.out.low1 hi.out (by omega) B2.out g3.out)
          clear T2 g3 B2
          go_wp2
          go_roundw
          case rel => exact ⟨k + 1, s, num, _, by omega, by go_num, rfl, hs.out, by have := hp.out; omega, by have := hA'.out; omega, T3.out, B3.out⟩
          case measure => simp [intOf]; omega
    · have hk' : k = len0 := by omega
      subst hk'
      go_wp2
      go_ret
      exact ⟨rfl, B.out⟩

theorem walk (a0 : Option Addr) (len0 cap0 : Nat) (z0 : Nat → Int) (w : World) (w0 : IsRow .i8 w a0 len0 cap0 z0) :
    Calls Try.prog 3 #[.slice a0 len0 cap0] w fun e w' => e = .returned (.bool true) ∧ Below w.heap.size w w' := by
  by_cases h : 200 < (len0 : Int)
  · exact walk_long a0 len0 cap0 w h
  · exact walk_short a0 len0 cap0 z0 w w0 h

theorem own : ownKnob Try.prog.godebug = none := by kernel_rfl
theorem laidOut : laidOutB Try.prog = true := by kernel_rfl

/-! ### THE ROW's STEP, as the guide has it -/
set_option maxRecDepth 100000 in
theorem lifted (os : Os) (started : os.Started) (H : Type) (enc : TypeId × Value → H) :
    ReturnsInHanded {} Try.checked os 3 .any (Rows.descOnceSpec.pre6 enc Try.prog Try.f3 Rows.descOnceRow.domain false) (Rows.descOnceSpec.post enc Try.prog Try.f3 false true false false) := by
  refine returnsInHanded_of_change (C := Try.checked) own started (by kernel_rfl) Try.func3
    (ChangeSpec.witness6 (enc := enc) (C := Try.checked) false ⟨#[], #[.slice none 0 0], []⟩ 8 (by kernel_rfl) (by kernel_rfl) (by kernel_rfl) (by kernel_rfl)) ?_
  intro W base args ds gs before hval0 hW hcnd _
  have hval : ∀ (j : Nat) t v, Try.f3.params[j]? = some t → args[j]? = some v → Value.okWide Try.prog W .any base t v := hval0
  have hW' := hW
  obtain ⟨p, q, hA0, hV, rfl, hfz, hnd⟩ := hW
  have hA : DataW.TrodAll enc Try.prog W 0 (fun _ => true) true Try.f3.params.toList args.toList ds p := hA0
  rw [Try.params3] at hA hval
  obtain ⟨v0, vs0, d0, ds0, p0, q0, hargs, rfl, rfl, h0, r0⟩ := trodAll_cons hA
  obtain ⟨rfl, rfl, rfl⟩ := trodAll_nil r0
  obtain rfl : args = #[v0] := by cases args; simp_all
  obtain ⟨rfl, rfl⟩ := trodVars_none hV
  obtain ⟨a0, len0, cap0, rfl⟩ := okWide_slice Try.underlying22 (hval 0 22 v0 rfl rfl)
  have k0 := h0
  have lt0 : ∀ x ∈ p0, x.block < W.heap.size := by obtain ⟨m, hm⟩ := k0; exact DataW.trod_lt m _ _ _ hm
  obtain ⟨z0, w0⟩ : ∃ z, IsRow .i8 W a0 len0 cap0 z := by
    obtain ⟨fuel, hf⟩ := h0
    exact isRow_of Try.underlying22 Try.underlying32 (by kernel_rfl) hf
  clear hA0 hval0
  refine (walk a0 len0 cap0 z0 W w0).mono fun e W' ⟨he, bel⟩ => ?_
  subst he
  exact ⟨_, rfl, _, _, _, [], _, [], hW', trodAll_mk1 (shut_bool Try.underlying4 _), (trodAll_cons_mk (Below.trod laidOut (by kernel_rfl) (of_decide_eq_true (by kernel_rfl)) k0 bel lt0) trodAll_mk0), rfl, bel.frame _, fun h => by cases h⟩

theorem over : Rows.descOnceRow.holds Try.pinned (OpenSpec.ofChange Rows.descOnceSpec) :=
  OpenClaim.holds_of_wide 3 Try.f3 rfl rfl rfl rfl rfl rfl rfl ⟨rfl, rfl, rfl, rfl, rfl⟩ rfl rfl rfl rfl rfl (by kernel_rfl) Try.func3 (by kernel_rfl)
    (of_decide_eq_true (by kernel_rfl)) (by unfold Func.isWrapper; first | (rw [if_pos (by decide +kernel)]; kernel_rfl) | (rw [if_neg (by decide +kernel)]; exact ⟨rfl, rfl⟩))
    (fun os started H enc _ => lifted os started H enc)

theorem proved : Rows.DescOnceSaid := over
#print axioms proved
end Go.Proofs.Ytpllfichmpappaa.descOnce
