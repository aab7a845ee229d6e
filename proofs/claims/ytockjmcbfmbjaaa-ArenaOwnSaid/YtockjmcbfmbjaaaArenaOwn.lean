/-
  ArenaOwn: two arenas into which two lists are put, one thing of each in turn, each number their things in the order in which they were put, tell each thing under its number, and tell how many there are and how many more have room; for any two lists.
  Conditions: none (of lists of more than 200 the law says nothing by itself).
-/
import Derived.Test.YtockjmcbfmbjaaaRows
import Derived.Test.YtockjmcbfmbjaaaOpen
import Derived.Test.YtockjmcbfmbjaaaArena
import Derived.Test.YtockjmcbfmbjaaaAlive02
namespace Go.Proofs.Ytockjmcbfmbjaaa.arenaOwn
open Go.ChangeShapes Go.WideShapes Go.ChangeAt Go.RowKit Go.Proofs.Ytockjmcbfmbjaaa.base Go.Proofs.Ytockjmcbfmbjaaa.ar
set_option linter.unusedVariables false

/-- At the head of a round of the first loop: k things of each list were put, as far as it has so many. -/
def Rel (w : World) (b1 b2 : Nat) (z0 z1 : Nat → Int) (len0 len1 : Nat) (i : Value) (wr : World) : Prop :=
  ∃ (k : Nat) (r1 r2 : Option Nat), (k ≤ len0 ∨ k ≤ len1) ∧ i = .int .i64 k ∧ ArenaI w.heap.size wr b1 400 (min k len0) (vals z0 (min k len0)) r1 ∧ ArenaI w.heap.size wr b2 400 (min k len1) (vals z1 (min k len1)) r2 ∧ Apart b1 r1 b2 r2 ∧ Below w.heap.size w wr

set_option maxRecDepth 100000 in
theorem walk_long (a0 : Option Addr) (len0 cap0 : Nat) (a1 : Option Addr) (len1 cap1 : Nat) (w : World) (h : 200 < (len0 : Int) ∨ 200 < (len1 : Int)) :
    Calls Try.prog 6 #[.slice a0 len0 cap0, .slice a1 len1 cap1] w fun e w' => e = .returned (.bool true) ∧ Below w.heap.size w w' := by
  by_cases h0 : 200 < (len0 : Int)
  · clear h
    go_enter Try.func6, Try.ntmps6
    go_wp2_with fail
    refine (alive_any _).mono ?_
    rintro e v1 ⟨rfl, B1⟩
    go_wp2
    go_ret
    exact ⟨rfl, B1.out⟩
  · have h1 : 200 < (len1 : Int) := by omega
    clear h
    go_enter Try.func6, Try.ntmps6
    go_wp2_with fail
    refine (alive_any _).mono ?_
    rintro e v1 ⟨rfl, B1⟩
    go_wp2
    go_ret
    exact ⟨rfl, B1.out⟩

set_option maxRecDepth 100000 in
set_option maxHeartbeats 1000000 in
theorem walk_short (a0 : Option Addr) (len0 cap0 : Nat) (z0 : Nat → Int) (a1 : Option Addr) (len1 cap1 : Nat) (z1 : Nat → Int) (w : World) (w0 : IsRow .i64 w a0 len0 cap0 z0) (w1 : IsRow .i64 w a1 len1 cap1 z1) (h0 : ¬ 200 < (len0 : Int)) (h1 : ¬ 200 < (len1 : Int)) :
    Calls Try.prog 6 #[.slice a0 len0 cap0, .slice a1 len1 cap1] w fun e w' => e = .returned (.bool true) ∧ Below w.heap.size w w' := by
  have W0 := Lib.hid w0
  have W1 := Lib.hid w1
  clear w0 w1
  go_enter Try.func6, Try.ntmps6
  go_wp2_with fail
  refine (alive_any _).mono ?_
  rintro e v1 ⟨rfl, B1⟩
  go_wp2_with fail
  refine (newI_in w.heap.size 400 v1 (by omega) (by omega) B1.out.size).mono ?_
  rintro e v2 ⟨b1, rfl, hb1, A1, g2⟩
  have B2 := Lib.hid (bl_none B1.out g2.out)
  go_wp2_with fail
  refine (newI_in w.heap.size 400 v2 (by omega) (by omega) B2.out.size).mono ?_
  rintro e v3 ⟨b2, rfl, hb2, A2, g3⟩
  have B3 := Lib.hid (bl_none B2.out g3.out)
  have A1' := Lib.hid (A1.out.grown g3.out)
  have ap : Hid (Apart b1 none b2 none) := ⟨by have := A1.out.lt; have := hb2.out; omega, by simp, by simp, .inl rfl⟩
  clear B1 g2 B2 g3 A1 hb1 hb2
  go_wp2_with fail
  go_loopw [9] (fun i wr => Rel w b1 b2 z0 z1 len0 len1 i wr) (fun i _ => (max len0 len1 - intOf i).toNat)
  case atStart => exact ⟨0, none, none, by omega, rfl, by simpa [vals] using A1'.out, by simpa [vals] using A2.out, ap.out, B3.out⟩
  case round =>
    obtain ⟨k, r1, r2, hk, rfl, P0, Q0, ap0, B0⟩ := hrel
    have B := Lib.hid B0
    have ap2 := Lib.hid ap0
    have hsz := B.out.size
    clear B0 ap0 A1' A2 ap B3
    by_cases hlt0 : k < len0
    · obtain ⟨_, _, h | ⟨o1, off1, rfl, ho1, hz⟩⟩ := W0.out
      · exfalso; omega
      have hc0 := (B.out.cell (p := ⟨o1, off1 + k, none⟩) ho1).trans (hz k hlt0).1
      clear hz
      have P : Hid (ArenaI w.heap.size wr b1 400 k (vals z0 k) r1) := by rwa [show min k len0 = k by omega] at P0
      have hlt0' : (k : Int) < (len0 : Int) := by omega
      clear P0
      by_cases hlt1 : k < len1
      · obtain ⟨_, _, h | ⟨o2, off2, rfl, ho2, hz⟩⟩ := W1.out
        · exfalso; omega
        have Q : Hid (ArenaI w.heap.size wr b2 400 k (vals z1 k) r2) := by rwa [show min k len1 = k by omega] at Q0
        have hz2 := Lib.hid (hz k hlt1).1
        have hlt1' : (k : Int) < (len1 : Int) := by omega
        clear Q0 hz
        go_wp2_with fail
        refine (putI w.heap.size b1 (z0 k) 400 k _ r1 wr P.out (by omega) (by omega) hsz).mono ?_
        rintro e u1 ⟨r1', rfl, P1, c1⟩
        have Q1 := Lib.hid (Q.out.chg c1.out ap2.out)
        have ap3 := Lib.hid (ap2.out.step c1.out Q.out)
        have B1 := Lib.hid (c1.out.bl B.out hsz P.out)
        have hsz1 := B1.out.size
        have hc1 := (B1.out.cell (p := ⟨o2, off2 + k, none⟩) ho2).trans hz2.out
        clear c1 P Q ap2 B hc0 hz2 hsz
        go_wp2_with fail
        refine (putI w.heap.size b2 (z1 k) 400 k _ r2 u1 Q1.out (by omega) (by omega) hsz1).mono ?_
        rintro e u2 ⟨r2', rfl, Q2, c2⟩
        have P2 := Lib.hid (P1.out.chg c2.out ap3.out.symm)
        have ap4 := Lib.hid (ap3.out.symm.step c2.out P1.out).symm
        have B2 := Lib.hid (c2.out.bl B1.out hsz1 Q1.out)
        clear c2 P1 Q1 ap3 B1 hc1 hsz1
        go_wp2
        go_roundw
        case rel => exact ⟨k + 1, r1', r2', by omega, by go_num, by rw [show min (k + 1) len0 = k + 1 by omega, vals_succ]; exact P2.out, by rw [show min (k + 1) len1 = k + 1 by omega, vals_succ]; exact Q2.out, ap4.out, B2.out⟩
        case measure => simp [intOf]; omega
      · have Q : Hid (ArenaI w.heap.size wr b2 400 len1 (vals z1 len1) r2) := by rwa [show min k len1 = len1 by omega] at Q0
        have hlt1' : (len1 : Int) ≤ (k : Int) := by omega
        clear Q0
        go_wp2_with fail
        refine (putI w.heap.size b1 (z0 k) 400 k _ r1 wr P.out (by omega) (by omega) hsz).mono ?_
        rintro e u1 ⟨r1', rfl, P1, c1⟩
        have Q1 := Lib.hid (Q.out.chg c1.out ap2.out)
        have ap3 := Lib.hid (ap2.out.step c1.out Q.out)
        have B1 := Lib.hid (c1.out.bl B.out hsz P.out)
        clear c1 P Q ap2 B hc0 hsz
        go_wp2
        go_roundw
        case rel => exact ⟨k + 1, r1', r2, by omega, by go_num, by rw [show min (k + 1) len0 = k + 1 by omega, vals_succ]; exact P1.out, by rw [show min (k + 1) len1 = len1 by omega]; exact Q1.out, ap3.out, B1.out⟩
        case measure => simp [intOf]; omega
    · have P : Hid (ArenaI w.heap.size wr b1 400 len0 (vals z0 len0) r1) := by rwa [show min k len0 = len0 by omega] at P0
      have hlt0' : (len0 : Int) ≤ (k : Int) := by omega
      clear P0
      by_cases hlt1 : k < len1
      · obtain ⟨_, _, h | ⟨o2, off2, rfl, ho2, hz⟩⟩ := W1.out
        · exfalso; omega
        have Q : Hid (ArenaI w.heap.size wr b2 400 k (vals z1 k) r2) := by rwa [show min k len1 = k by omega] at Q0
        have hc1 := (B.out.cell (p := ⟨o2, off2 + k, none⟩) ho2).trans (hz k hlt1).1
        have hlt1' : (k : Int) < (len1 : Int) := by omega
        clear Q0 hz
        go_wp2_with fail
        refine (putI w.heap.size b2 (z1 k) 400 k _ r2 wr Q.out (by omega) (by omega) hsz).mono ?_
        rintro e u2 ⟨r2', rfl, Q2, c2⟩
        have P2 := Lib.hid (P.out.chg c2.out ap2.out.symm)
        have ap4 := Lib.hid (ap2.out.symm.step c2.out P.out).symm
        have B2 := Lib.hid (c2.out.bl B.out hsz Q.out)
        clear c2 P Q ap2 B hc1 hsz
        go_wp2
        go_roundw
        case rel => exact ⟨k + 1, r1, r2', by omega, by go_num, by rw [show min (k + 1) len0 = len0 by omega]; exact P2.out, by rw [show min (k + 1) len1 = k + 1 by omega, vals_succ]; exact Q2.out, ap4.out, B2.out⟩
        case measure => simp [intOf]; omega
      · have Q : Hid (ArenaI w.heap.size wr b2 400 len1 (vals z1 len1) r2) := by rwa [show min k len1 = len1 by omega] at Q0
        have hlt1' : (len1 : Int) ≤ (k : Int) := by omega
        clear Q0 ap2
        go_wp2_with fail
        go_loop [14] (fun i => ∃ k : Nat, k ≤ len0 ∧ i = .int .i64 k) (fun i => (len0 - intOf i).toNat)
        case atStart => exact ⟨0, by omega, rfl⟩
        case round =>
          obtain ⟨m, hm, rfl⟩ := hrel
          by_cases hm0 : m < len0
          · obtain ⟨_, _, h | ⟨o1, off1, rfl, ho1, hz⟩⟩ := W0.out
            · exfalso; omega
            have hc0 := (B.out.cell (p := ⟨o1, off1 + m, none⟩) ho1).trans (hz m hm0).1
            have hm0' : (m : Int) < (len0 : Int) := by omega
            clear hz
            go_wp2_with fail
            refine (atI w.heap.size b1 m (z0 m) 400 len0 _ r1 wr P.out hm0 (by omega) (vals_get _ _ _ hm0)).mono ?_
            rintro e u1 ⟨rfl, rfl⟩
            go_wp2
            go_round
            case rel => exact ⟨m + 1, by omega, by go_num⟩
            case measure => simp [intOf]; omega
          · have hm0' : (len0 : Int) ≤ (m : Int) := by omega
            go_wp2_with fail
            go_loop [17] (fun i => ∃ k : Nat, k ≤ len1 ∧ i = .int .i64 k) (fun i => (len1 - intOf i).toNat)
            case atStart => exact ⟨0, by omega, rfl⟩
            case round =>
              obtain ⟨m1, hm1, rfl⟩ := hrel
              by_cases hm3 : m1 < len1
              · obtain ⟨_, _, h | ⟨o2, off2, rfl, ho2, hz⟩⟩ := W1.out
                · exfalso; omega
                have hc0 := (B.out.cell (p := ⟨o2, off2 + m1, none⟩) ho2).trans (hz m1 hm3).1
                have hm1' : (m1 : Int) < (len1 : Int) := by omega
                clear hz
                go_wp2_with fail
                refine (atI w.heap.size b2 m1 (z1 m1) 400 len1 _ r2 wr Q.out hm3 (by omega) (vals_get _ _ _ hm3)).mono ?_
                rintro e u1 ⟨rfl, rfl⟩
                go_wp2
                go_round
                case rel => exact ⟨m1 + 1, by omega, by go_num⟩
                case measure => simp [intOf]; omega
              · have hm1' : (len1 : Int) ≤ (m1 : Int) := by omega
                go_wp2_with fail
                refine (lenI w.heap.size b1 400 len0 _ r1 wr P.out).mono ?_
                rintro e u1 ⟨rfl, rfl⟩
                go_wp2_with fail
                refine (lenI w.heap.size b2 400 len1 _ r2 wr Q.out).mono ?_
                rintro e u2 ⟨rfl, rfl⟩
                go_wp2_with fail
                refine (leftI w.heap.size b1 400 len0 _ r1 wr P.out (by omega) (by omega)).mono ?_
                rintro e u3 ⟨q, rfl, rfl⟩
                go_wp2
                go_ret
                exact ⟨by simp, bl_drewN B.out q⟩

theorem walk (a0 : Option Addr) (len0 cap0 : Nat) (z0 : Nat → Int) (a1 : Option Addr) (len1 cap1 : Nat) (z1 : Nat → Int) (w : World) (w0 : IsRow .i64 w a0 len0 cap0 z0) (w1 : IsRow .i64 w a1 len1 cap1 z1) :
    Calls Try.prog 6 #[.slice a0 len0 cap0, .slice a1 len1 cap1] w fun e w' => e = .returned (.bool true) ∧ Below w.heap.size w w' := by
  by_cases h : 200 < (len0 : Int) ∨ 200 < (len1 : Int)
  · exact walk_long a0 len0 cap0 a1 len1 cap1 w h
  · exact walk_short a0 len0 cap0 z0 a1 len1 cap1 z1 w w0 w1 (by omega) (by omega)

theorem own : ownKnob Try.prog.godebug = none := by kernel_rfl
theorem laidOut : laidOutB Try.prog = true := by kernel_rfl

/-! ### THE ROW's STEP, as the guide has it -/
set_option maxRecDepth 100000 in
theorem lifted (os : Os) (started : os.Started) (H : Type) (enc : TypeId × Value → H) :
    ReturnsInHanded {} Try.checked os 6 .any (Rows.arenaOwnSpec.pre6 enc Try.prog Try.f6 Rows.arenaOwnRow.domain false) (Rows.arenaOwnSpec.post enc Try.prog Try.f6 false true false false) := by
  refine returnsInHanded_of_change (C := Try.checked) own started (by kernel_rfl) Try.func6
    (ChangeSpec.witness6 (enc := enc) (C := Try.checked) false ⟨#[], #[.slice none 0 0, .slice none 0 0], []⟩ 8 (by kernel_rfl) (by kernel_rfl) (by kernel_rfl) (by kernel_rfl)) ?_
  intro W base args ds gs before hval0 hW hcnd _
  have hval : ∀ (j : Nat) t v, Try.f6.params[j]? = some t → args[j]? = some v → Value.okWide Try.prog W .any base t v := hval0
  have hW' := hW
  obtain ⟨p, q, hA0, hV, rfl, hfz, hnd⟩ := hW
  have hA : DataW.TrodAll enc Try.prog W 0 (fun _ => true) true Try.f6.params.toList args.toList ds p := hA0
  rw [Try.params6] at hA hval
  obtain ⟨v0, vs0, d0, ds0, p0, q0, hargs, rfl, rfl, h0, r0⟩ := trodAll_cons hA
  obtain ⟨v1, vs1, d1, ds1, p1, q1, rfl, rfl, rfl, h1, r1⟩ := trodAll_cons r0
  obtain ⟨rfl, rfl, rfl⟩ := trodAll_nil r1
  obtain rfl : args = #[v0, v1] := by cases args; simp_all
  obtain ⟨rfl, rfl⟩ := trodVars_none hV
  obtain ⟨a0, len0, cap0, rfl⟩ := okWide_slice Try.underlying28 (hval 0 28 v0 rfl rfl)
  have k0 := h0
  have lt0 : ∀ x ∈ p0, x.block < W.heap.size := by obtain ⟨m, hm⟩ := k0; exact DataW.trod_lt m _ _ _ hm
  obtain ⟨z0, w0⟩ : ∃ z, IsRow .i64 W a0 len0 cap0 z := by
    obtain ⟨fuel, hf⟩ := h0
    exact isRow_of Try.underlying28 Try.underlying3 (by kernel_rfl) hf
  obtain ⟨a1, len1, cap1, rfl⟩ := okWide_slice Try.underlying28 (hval 1 28 v1 rfl rfl)
  have k1 := h1
  have lt1 : ∀ x ∈ p1, x.block < W.heap.size := by obtain ⟨m, hm⟩ := k1; exact DataW.trod_lt m _ _ _ hm
  obtain ⟨z1, w1⟩ : ∃ z, IsRow .i64 W a1 len1 cap1 z := by
    obtain ⟨fuel, hf⟩ := h1
    exact isRow_of Try.underlying28 Try.underlying3 (by kernel_rfl) hf
  clear hA0 hval0
  refine (walk a0 len0 cap0 z0 a1 len1 cap1 z1 W w0 w1).mono fun e W' ⟨he, bel⟩ => ?_
  subst he
  exact ⟨_, rfl, _, _, _, [], _, [], hW', trodAll_mk1 (shut_bool Try.underlying4 _), (trodAll_cons_mk (Below.trod laidOut (by kernel_rfl) (of_decide_eq_true (by kernel_rfl)) k0 bel lt0) (trodAll_cons_mk (Below.trod laidOut (by kernel_rfl) (of_decide_eq_true (by kernel_rfl)) k1 bel lt1) trodAll_mk0)), rfl, bel.frame _, fun h => by cases h⟩

theorem over : Rows.arenaOwnRow.holds Try.pinned (OpenSpec.ofChange Rows.arenaOwnSpec) :=
  OpenClaim.holds_of_wide 6 Try.f6 rfl rfl rfl rfl rfl rfl rfl ⟨rfl, rfl, rfl, rfl, rfl⟩ rfl rfl rfl rfl rfl (by kernel_rfl) Try.func6 (by kernel_rfl)
    (of_decide_eq_true (by kernel_rfl)) (by unfold Func.isWrapper; first | (rw [if_pos (by decide +kernel)]; kernel_rfl) | (rw [if_neg (by decide +kernel)]; exact ⟨rfl, rfl⟩))
    (fun os started H enc _ => lifted os started H enc)

theorem proved : Rows.ArenaOwnSaid := over
#print axioms proved
end Go.Proofs.Ytockjmcbfmbjaaa.arenaOwn
