/-
  ChoiceKeeps: who meets and looks gives way no more, nor less, than ahead, remembers the foe that was met last, and counts its tries from 1 on; for any count of how often it gave way, any list of sides, and any number of steps to wait.
  Conditions: none (of a list of more than 100, and behind a side of a number below 0, the law says nothing by itself).
-/
import Derived.Test.YtgnnlgadbkmfeaaRows
import Derived.Test.YtgnnlgadbkmfeaaOpen
import Derived.Test.YtgnnlgadbkmfeaaOpenB
import Derived.Test.YtgnnlgadbkmfeaaRef05
import Derived.StillTailTactics
import Derived.IntWalk
namespace Go.Proofs.Ytgnnlgadbkmfeaa.choiceKeeps
open Go.ChangeShapes Go.WideShapes Go.ChangeAt Go.RowKit Go.Proofs.Ytgnnlgadbkmfeaa.base Go.Proofs.Ytgnnlgadbkmfeaa.ch
set_option linter.unusedVariables false

/-- At the head of a round: k foes were met; the state remembers the last one, was met by it t times in a row, and gave way y times. -/
def Rel (w : World) (sb : Nat) (y : Int) (len : Nat) (z : Nat → Nat → Int) (rv iv : Value) (wr : World) : Prop :=
  ∃ (k : Nat) (f t p l : Int), k ≤ len ∧ iv = .int .i64 k ∧ rv = .int .i64 t ∧ Blk 23 wr sb #[.int .i64 f, .int .i64 t, .int .i64 y, .int .i64 p, .int .i64 l] ∧ 0 ≤ t ∧ t ≤ k ∧ 0 ≤ l ∧ (k = 0 → f = -1) ∧ (∀ j, k = j + 1 → f = z j 0) ∧ w.grownBy wr none

theorem met_one (f t y p l st pr pu : Int) (b : Bool) (l0 : 0 ≤ t) (l1 : t ≤ 1000) (w : World) :
    Calls Try.prog 9 #[.agg #[.int .i64 f, .int .i64 t, .int .i64 y, .int .i64 p, .int .i64 l], .agg #[.int .i64 f, .int .i64 st, .int .i64 pr, .int .i64 pu, .bool b]] w fun e w' => e = .returned (.agg #[.int .i64 f, .int .i64 (t + 1), .int .i64 y, .int .i64 p, .int .i64 l]) ∧ Hid (w.grownBy w' none) := by
  have h := met_same f t y p l st pr pu b (by omega) w
  rw [show cnt t = t + 1 by unfold cnt; omega] at h
  exact h

theorem lL_nonneg (p q l : Int) (h : 0 ≤ l) : 0 ≤ lL p q l := by unfold lL cnt; split <;> omega

theorem walk_long (a0 : Int) (a1 : Option Addr) (len1 cap1 : Nat) (a2 : Int) (w : World) (h : 100 < (len1 : Int)) :
    Calls Try.prog 6 #[.int .i64 a0, .slice a1 len1 cap1, .int .i64 a2] w fun e w' => e = .returned (.bool true) ∧ Below w.heap.size w w' := by
  go_enter Try.func6, Try.ntmps6
  go_wp2_with fail
  refine (alive_any _).mono ?_
  rintro e v1 ⟨rfl, g1⟩
  go_wp2
  go_ret
  exact ⟨rfl, gb_below g1.out⟩

set_option maxRecDepth 100000 in
set_option maxHeartbeats 4000000 in
theorem walk_short (y : Int) (a1 : Option Addr) (len1 cap1 : Nat) (z1 : Nat → Nat → Int) (y1 : Nat → Nat → Bool) (n : Int) (w : World) (w1 : IsMix 5 (fun j => j == 4) w a1 len1 cap1 z1 y1) (h : ¬ 100 < (len1 : Int)) :
    Calls Try.prog 6 #[.int .i64 y, .slice a1 len1 cap1, .int .i64 n] w fun e w' => e = .returned (.bool true) ∧ Below w.heap.size w w' := by
  have W1 := Lib.hid w1
  clear w1
  go_enter Try.func6, Try.ntmps6
  go_wp2_with fail
  refine (alive_any _).mono ?_
  rintro e v1 ⟨rfl, g1⟩
  go_wp2_with fail
  refine (fresh_any _).mono ?_
  rintro e v2 ⟨rfl, g2⟩
  have X3 := Lib.hid (Blk.made v2 23 #[.int .i64 (-1), .int .i64 0, .int .i64 y, .int .i64 0, .int .i64 0])
  have B3 := Lib.hid (gb_alloc (gb_trans g1.out g2.out) (.cells #[.int .i64 (-1), .int .i64 0, .int .i64 y, .int .i64 0, .int .i64 0] 23))
  have hsb := Lib.hid (show w.heap.size ≤ v2.heap.size from (gb_trans g1.out g2.out).size)
  clear g1 g2
  go_wp2
  generalize v2.alloc (.cells #[.int .i64 (-1), .int .i64 0, .int .i64 y, .int .i64 0, .int .i64 0] 23) = v3 at *
  generalize v2.heap.size = sb at *
  go_loopw [8, 9] (fun rv iv wr => Rel w sb y len1 z1 rv iv wr) (fun _ iv _ => (len1 - intOf iv).toNat)
  case atStart => exact ⟨0, -1, 0, 0, 0, by omega, rfl, rfl, X3.out, by omega, by omega, by omega, fun _ => rfl, fun j hj => by omega, B3.out⟩
  case round =>
    obtain ⟨k, f, t, p, l, hk, rfl, rfl, X0, t0, t1, l0, hf0, hfj, B0⟩ := hrel
    have X := Lib.hid X0
    have B := Lib.hid B0
    have Hf0 := Lib.hid hf0
    have Hfj := Lib.hid hfj
    clear X0 B0 hf0 hfj X3 B3
    by_cases hlt : k < len1
    · obtain ⟨_, _, h0 | ⟨b1, off1, rfl, hb1, hz⟩⟩ := W1.out
      · exfalso; omega
      have hw : w.heap.size ≤ wr.heap.size := B.out.size
      have hc0 : wr.cell? ⟨b1, off1 + k * 5, none⟩ = some (.int .i64 (z1 k 0)) := ((gb_below B.out).cell (p := ⟨b1, off1 + (k * 5 + 0), none⟩) hb1).trans (hz k 0 hlt (by omega)).1
      have hc1 : wr.cell? ⟨b1, off1 + k * 5 + 1, none⟩ = some (.int .i64 (z1 k 1)) := ((gb_below B.out).cell (p := ⟨b1, off1 + (k * 5 + 1), none⟩) hb1).trans (hz k 1 hlt (by omega)).1
      have hc2 : wr.cell? ⟨b1, off1 + k * 5 + 2, none⟩ = some (.int .i64 (z1 k 2)) := ((gb_below B.out).cell (p := ⟨b1, off1 + (k * 5 + 2), none⟩) hb1).trans (hz k 2 hlt (by omega)).1
      have hc3 : wr.cell? ⟨b1, off1 + k * 5 + 3, none⟩ = some (.int .i64 (z1 k 3)) := ((gb_below B.out).cell (p := ⟨b1, off1 + (k * 5 + 3), none⟩) hb1).trans (hz k 3 hlt (by omega)).1
      have hc4 : wr.cell? ⟨b1, off1 + k * 5 + 4, none⟩ = some (.bool (y1 k 4)) := ((gb_below B.out).cell (p := ⟨b1, off1 + (k * 5 + 4), none⟩) hb1).trans (hz k 4 hlt (by omega)).1
      have hlt' : (k : Int) < (len1 : Int) := by omega
      have hb2 : b1 < wr.heap.size := by omega
      have Hz := Lib.hid hz
      clear hz
      by_cases hF : z1 k 0 < 0
      · go_wp2
        go_ret
        exact ⟨rfl, gb_below B.out⟩
      have G0 : Hid (z1 k 0 = z1 k 0) := rfl
      have wc0 : w.cell? ⟨b1, off1 + k * 5, none⟩ = some (.int .i64 (z1 k 0)) := (Hz.out k 0 hlt (by omega)).1
      have wc1 : w.cell? ⟨b1, off1 + k * 5 + 1, none⟩ = some (.int .i64 (z1 k 1)) := (Hz.out k 1 hlt (by omega)).1
      have wc2 : w.cell? ⟨b1, off1 + k * 5 + 2, none⟩ = some (.int .i64 (z1 k 2)) := (Hz.out k 2 hlt (by omega)).1
      have wc3 : w.cell? ⟨b1, off1 + k * 5 + 3, none⟩ = some (.int .i64 (z1 k 3)) := (Hz.out k 3 hlt (by omega)).1
      have wc4 : w.cell? ⟨b1, off1 + k * 5 + 4, none⟩ = some (.bool (y1 k 4)) := (Hz.out k 4 hlt (by omega)).1
      generalize hF0 : z1 k 0 = F at hc0 wc0 hF
      have HF := Lib.hid hF0
      clear hF0 G0
      generalize z1 k 1 = S at hc1 wc1
      generalize z1 k 2 = R at hc2 wc2
      generalize z1 k 3 = Q at hc3 wc3
      generalize y1 k 4 = V at hc4 wc4
      by_cases hk0 : k = 0
      · subst hk0
        obtain rfl : f = -1 := Hf0.out rfl
        simp only [Nat.zero_mul, Nat.add_zero] at hc0 hc1 hc2 hc3 hc4 wc0 wc1 wc2 wc3 wc4
        have wc0 := Lib.hid wc0
        have wc1 := Lib.hid wc1
        have wc2 := Lib.hid wc2
        have wc3 := Lib.hid wc3
        have wc4 := Lib.hid wc4
        have HE := Lib.hid (show ((-1 : Int) == F) = false by simp; omega)
        have q8 : (0 : Int) < (len1 : Int) := by omega
        clear Hf0 Hfj hlt'
        go_wp2
        go_quiet (fail)
        go_wp2
        obtain ⟨wq, hWq⟩ : ∃ u : World, u = (wr.drewN nq).drew := ⟨_, rfl⟩
        have XQ := Lib.hid (show Blk 23 wq sb #[.int .i64 (-1), .int .i64 t, .int .i64 y, .int .i64 p, .int .i64 l] by rw [hWq]; exact X.out)
        have BQ := Lib.hid (show w.grownBy wq none by rw [hWq]; exact gb_drew (gb_drewN B.out _))
        refine wp_region_still_tail 5 (by kernel_rfl) (by kernel_rfl) ?_
        simp only [List.take_succ_cons, List.take_zero, List.drop_succ_cons, List.drop_zero]
        change wpStill _ _ (wr.drewN nq).drew (fun a' => wpList _ _ _ _ a' (wr.drewN nq).drew) _ _
        rw [← hWq]
        clear hWq X B hc0 hc1 hc2 hc3 hc4 hb2 hw
        have hb3 : b1 < wq.heap.size := Nat.lt_of_lt_of_le hb1 BQ.out.size
        have g0 : wq.cell? ⟨b1, off1, none⟩ = some (.int .i64 F) := ((gb_below BQ.out).cell (p := ⟨b1, off1, none⟩) hb1).trans wc0.out
        have g1 : wq.cell? ⟨b1, off1 + 1, none⟩ = some (.int .i64 S) := ((gb_below BQ.out).cell (p := ⟨b1, off1 + 1, none⟩) hb1).trans wc1.out
        have g2 : wq.cell? ⟨b1, off1 + 2, none⟩ = some (.int .i64 R) := ((gb_below BQ.out).cell (p := ⟨b1, off1 + 2, none⟩) hb1).trans wc2.out
        have g3 : wq.cell? ⟨b1, off1 + 3, none⟩ = some (.int .i64 Q) := ((gb_below BQ.out).cell (p := ⟨b1, off1 + 3, none⟩) hb1).trans wc3.out
        have g4 : wq.cell? ⟨b1, off1 + 4, none⟩ = some (.bool V) := ((gb_below BQ.out).cell (p := ⟨b1, off1 + 4, none⟩) hb1).trans wc4.out
        have x0 : (wq).cell? ⟨sb, 0, none⟩ = some (.int .i64 (-1)) := XQ.out.cell 0
        have x1 : (wq).cell? ⟨sb, 1, none⟩ = some (.int .i64 t) := XQ.out.cell 1
        have x2 : (wq).cell? ⟨sb, 2, none⟩ = some (.int .i64 y) := XQ.out.cell 2
        have x3 : (wq).cell? ⟨sb, 3, none⟩ = some (.int .i64 p) := XQ.out.cell 3
        have x4 : (wq).cell? ⟨sb, 4, none⟩ = some (.int .i64 l) := XQ.out.cell 4
        repeat still_step
        refine wpStill_nil ?_
        go_wp2_with fail
        refine (met_other (-1) t y p l F S R Q V HE.out _).mono ?_
        rintro e u1 ⟨rfl, m1⟩
        clear x0 x1 x2 x3 x4 g0 g1 g2 g3 g4
        have X1 := Lib.hid (XQ.out.grown m1.out (by simp))
        have B1 := Lib.hid (gb_trans BQ.out m1.out)
        clear XQ BQ m1 hb3
        have x0 : (u1).cell? ⟨sb, 0, none⟩ = some (.int .i64 (-1)) := X1.out.cell 0
        have x1 : (u1).cell? ⟨sb, 1, none⟩ = some (.int .i64 t) := X1.out.cell 1
        have x2 : (u1).cell? ⟨sb, 2, none⟩ = some (.int .i64 y) := X1.out.cell 2
        have x3 : (u1).cell? ⟨sb, 3, none⟩ = some (.int .i64 p) := X1.out.cell 3
        have x4 : (u1).cell? ⟨sb, 4, none⟩ = some (.int .i64 l) := X1.out.cell 4
        have f0 := X1.out.free 0
        have f1 := X1.out.free 1
        have f2 := X1.out.free 2
        have f3 := X1.out.free 3
        have f4 := X1.out.free 4
        go_wp2
        clear x0 x1 x2 x3 x4 f0 f1 f2 f3 f4
        have X2 : Hid (Blk 23 (((((u1.setCell ⟨sb, 0, none⟩ (.int .i64 F)).setCell ⟨sb, 1, none⟩ (.int .i64 1)).setCell ⟨sb, 2, none⟩ (.int .i64 y)).setCell ⟨sb, 3, none⟩ (.int .i64 Q)).setCell ⟨sb, 4, none⟩ (.int .i64 0)) sb #[.int .i64 F, .int .i64 1, .int .i64 y, .int .i64 Q, .int .i64 0]) := ((((X1.out.set 0 _).set 1 _).set 2 _).set 3 _).set 4 _
        have B2 : Hid (w.grownBy (((((u1.setCell ⟨sb, 0, none⟩ (.int .i64 F)).setCell ⟨sb, 1, none⟩ (.int .i64 1)).setCell ⟨sb, 2, none⟩ (.int .i64 y)).setCell ⟨sb, 3, none⟩ (.int .i64 Q)).setCell ⟨sb, 4, none⟩ (.int .i64 0)) none) := gb_setNew (gb_setNew (gb_setNew (gb_setNew (gb_setNew (B1.out) (by have := hsb.out; show w.heap.size ≤ sb; omega) _) (by have := hsb.out; show w.heap.size ≤ sb; omega) _) (by have := hsb.out; show w.heap.size ≤ sb; omega) _) (by have := hsb.out; show w.heap.size ≤ sb; omega) _) (by have := hsb.out; show w.heap.size ≤ sb; omega) _
        clear X1 B1
        generalize ((((u1.setCell ⟨sb, 0, none⟩ (.int .i64 F)).setCell ⟨sb, 1, none⟩ (.int .i64 1)).setCell ⟨sb, 2, none⟩ (.int .i64 y)).setCell ⟨sb, 3, none⟩ (.int .i64 Q)).setCell ⟨sb, 4, none⟩ (.int .i64 0) = u2 at *
        have x0 : (u2).cell? ⟨sb, 0, none⟩ = some (.int .i64 F) := X2.out.cell 0
        have x1 : (u2).cell? ⟨sb, 1, none⟩ = some (.int .i64 1) := X2.out.cell 1
        have x2 : (u2).cell? ⟨sb, 2, none⟩ = some (.int .i64 y) := X2.out.cell 2
        have x3 : (u2).cell? ⟨sb, 3, none⟩ = some (.int .i64 Q) := X2.out.cell 3
        have x4 : (u2).cell? ⟨sb, 4, none⟩ = some (.int .i64 0) := X2.out.cell 4
        have g0 : u2.cell? ⟨b1, off1, none⟩ = some (.int .i64 F) := ((gb_below B2.out).cell (p := ⟨b1, off1, none⟩) hb1).trans wc0.out
        have g3 : u2.cell? ⟨b1, off1 + 3, none⟩ = some (.int .i64 Q) := ((gb_below B2.out).cell (p := ⟨b1, off1 + 3, none⟩) hb1).trans wc3.out
        have hb4 : b1 < u2.heap.size := Nat.lt_of_lt_of_le hb1 B2.out.size
        go_quiet (fail)
        go_wp2
        have e1 := World.new_ne u2 _ x0
        have e2 := World.new_ne u2 _ g3
        go_region_held3 (fun w' => w'.cell? ⟨sb, 0, none⟩ = some (.int .i64 F) ∧ w'.cell? ⟨sb, 1, none⟩ = some (.int .i64 1) ∧ w'.cell? ⟨sb, 2, none⟩ = some (.int .i64 y) ∧ w'.cell? ⟨sb, 3, none⟩ = some (.int .i64 Q) ∧ w'.cell? ⟨sb, 4, none⟩ = some (.int .i64 0) ∧ w'.cell? ⟨b1, off1 + 3, none⟩ = some (.int .i64 Q)) (go_keep) ((go_at_call 11; refine (look_any F 1 y Q 0 Q n (by omega) _).mono ?_; rintro e u3 ⟨rfl, m3⟩; have X3 := Lib.hid (X2.out.grown (gb_trans (by repeat (first | exact gb_refl _ _ | refine gb_drewN ?_ _ | refine gb_drew ?_ | refine gb_alloc ?_ _)) m3.out) (by simp)); have k0 : u3.cell? ⟨sb, 0, none⟩ = some (.int .i64 F) := X3.out.cell 0; have k1 : u3.cell? ⟨sb, 1, none⟩ = some (.int .i64 1) := X3.out.cell 1; have k2 : u3.cell? ⟨sb, 2, none⟩ = some (.int .i64 y) := X3.out.cell 2; have k3 : u3.cell? ⟨sb, 3, none⟩ = some (.int .i64 Q) := X3.out.cell 3; have k4 : u3.cell? ⟨sb, 4, none⟩ = some (.int .i64 0) := X3.out.cell 4; have B3 := Lib.hid (gb_trans B2.out (gb_trans (by repeat (first | exact gb_refl _ _ | refine gb_drewN ?_ _ | refine gb_drew ?_ | refine gb_alloc ?_ _)) m3.out)); have h3 := ((gb_below B3.out).cell (p := ⟨b1, off1 + 3, none⟩) hb1).trans wc3.out; have e3 := World.new_ne u3 _ k0; have e4 := World.new_ne u3 _ h3; (first | (have N3 := Lib.hid (Blk.grown (t := 23) (b := u2.heap.size) (cs := #[.int .i64 0, .int .i64 0, .int .i64 0, .int .i64 0, .int .i64 0]) (by first | exact Blk.made _ _ _ | exact (Blk.made _ _ _).drew | exact (Blk.made _ _ _).drewN _) m3.out (by simp)); have nc0 := N3.out.cell 0; have nf0 := N3.out.free 0; have nc1 := N3.out.cell 1; have nf1 := N3.out.free 1; have nc2 := N3.out.cell 2; have nf2 := N3.out.free 2; have nc3 := N3.out.cell 3; have nf3 := N3.out.free 3; have nc4 := N3.out.cell 4; have nf4 := N3.out.free 4) | skip)))
        · have Y : Hid (Blk 23 (u3.alloc (.cells #[.int .i64 F, .int .i64 1, .int .i64 y, .int .i64 Q, .int .i64 (lL Q Q 0)] 23)) u3.heap.size #[.int .i64 F, .int .i64 1, .int .i64 y, .int .i64 Q, .int .i64 (lL Q Q 0)]) := Blk.made u3 23 _
          have X : Hid (Blk 23 (u3.alloc (.cells #[.int .i64 F, .int .i64 1, .int .i64 y, .int .i64 Q, .int .i64 (lL Q Q 0)] 23)) sb #[.int .i64 F, .int .i64 1, .int .i64 y, .int .i64 Q, .int .i64 0]) := X3.out.alloc _
          have B : Hid (w.grownBy (u3.alloc (.cells #[.int .i64 F, .int .i64 1, .int .i64 y, .int .i64 Q, .int .i64 (lL Q Q 0)] 23)) none) := gb_alloc B3.out _
          have hx : Hid (sb ≠ u3.heap.size) := Nat.ne_of_lt X3.out.lt
          clear X2 B2 x0 x1 x2 x3 x4 g0 g3 k0 k1 k2 k3 k4 h3 X3 B3 e1 e2 e3 e4 m3 hb4
          generalize u3.alloc (.cells #[.int .i64 F, .int .i64 1, .int .i64 y, .int .i64 Q, .int .i64 (lL Q Q 0)] 23) = wa at *
          generalize u3.heap.size = xb at *
          have x0 : (wa).cell? ⟨sb, 0, none⟩ = some (.int .i64 F) := X.out.cell 0
          have x1 : (wa).cell? ⟨sb, 1, none⟩ = some (.int .i64 1) := X.out.cell 1
          have x2 : (wa).cell? ⟨sb, 2, none⟩ = some (.int .i64 y) := X.out.cell 2
          have x3 : (wa).cell? ⟨sb, 3, none⟩ = some (.int .i64 Q) := X.out.cell 3
          have x4 : (wa).cell? ⟨sb, 4, none⟩ = some (.int .i64 0) := X.out.cell 4
          have y0 : (wa).cell? ⟨xb, 0, none⟩ = some (.int .i64 F) := Y.out.cell 0
          have y1 : (wa).cell? ⟨xb, 1, none⟩ = some (.int .i64 1) := Y.out.cell 1
          have y2 : (wa).cell? ⟨xb, 2, none⟩ = some (.int .i64 y) := Y.out.cell 2
          have y3 : (wa).cell? ⟨xb, 3, none⟩ = some (.int .i64 Q) := Y.out.cell 3
          have y4 : (wa).cell? ⟨xb, 4, none⟩ = some (.int .i64 (lL Q Q 0)) := Y.out.cell 4
          have g3 : wa.cell? ⟨b1, off1 + 3, none⟩ = some (.int .i64 Q) := ((gb_below B.out).cell (p := ⟨b1, off1 + 3, none⟩) hb1).trans wc3.out
          have f0 := X.out.free 0
          have f1 := X.out.free 1
          have f2 := X.out.free 2
          have f3 := X.out.free 3
          have f4 := X.out.free 4
          go_wp2
          go_quiet (fail)
          go_wp2
          go_roundw
          case rel => exact ⟨0 + 1, F, 1, Q, (lL Q Q 0), by omega, by go_num, rfl, (((((X.out.drewN _).set 0 _).set 1 _).set 2 _).set 3 _).set 4 _, by omega, by omega, lL_nonneg _ _ _ (by omega), fun hh => by omega, (fun i hi => by rw [show i = 0 by omega]; exact HF.out.symm), gb_setNew (gb_setNew (gb_setNew (gb_setNew (gb_setNew (gb_drewN B.out _) (by have := hsb.out; show w.heap.size ≤ sb; omega) _) (by have := hsb.out; show w.heap.size ≤ sb; omega) _) (by have := hsb.out; show w.heap.size ≤ sb; omega) _) (by have := hsb.out; show w.heap.size ≤ sb; omega) _) (by have := hsb.out; show w.heap.size ≤ sb; omega) _⟩
          case measure => simp [intOf]; omega
        · have Y : Hid (Blk 23 (((((u3.setCell ⟨u2.heap.size, 0, none⟩ (.int .i64 F)).setCell ⟨u2.heap.size, 1, none⟩ (.int .i64 1)).setCell ⟨u2.heap.size, 2, none⟩ (.int .i64 y)).setCell ⟨u2.heap.size, 3, none⟩ (.int .i64 Q)).setCell ⟨u2.heap.size, 4, none⟩ (.int .i64 (lL Q Q 0))) u2.heap.size #[.int .i64 F, .int .i64 1, .int .i64 y, .int .i64 Q, .int .i64 (lL Q Q 0)]) := ((((N3.out.set 0 _).set 1 _).set 2 _).set 3 _).set 4 _
          have X : Hid (Blk 23 (((((u3.setCell ⟨u2.heap.size, 0, none⟩ (.int .i64 F)).setCell ⟨u2.heap.size, 1, none⟩ (.int .i64 1)).setCell ⟨u2.heap.size, 2, none⟩ (.int .i64 y)).setCell ⟨u2.heap.size, 3, none⟩ (.int .i64 Q)).setCell ⟨u2.heap.size, 4, none⟩ (.int .i64 (lL Q Q 0))) sb #[.int .i64 F, .int .i64 1, .int .i64 y, .int .i64 Q, .int .i64 0]) := ((((X3.out.other (p := ⟨u2.heap.size, 0, none⟩) (by have := X2.out.lt; show sb ≠ u2.heap.size; omega) _).other (p := ⟨u2.heap.size, 1, none⟩) (by have := X2.out.lt; show sb ≠ u2.heap.size; omega) _).other (p := ⟨u2.heap.size, 2, none⟩) (by have := X2.out.lt; show sb ≠ u2.heap.size; omega) _).other (p := ⟨u2.heap.size, 3, none⟩) (by have := X2.out.lt; show sb ≠ u2.heap.size; omega) _).other (p := ⟨u2.heap.size, 4, none⟩) (by have := X2.out.lt; show sb ≠ u2.heap.size; omega) _
          have B : Hid (w.grownBy (((((u3.setCell ⟨u2.heap.size, 0, none⟩ (.int .i64 F)).setCell ⟨u2.heap.size, 1, none⟩ (.int .i64 1)).setCell ⟨u2.heap.size, 2, none⟩ (.int .i64 y)).setCell ⟨u2.heap.size, 3, none⟩ (.int .i64 Q)).setCell ⟨u2.heap.size, 4, none⟩ (.int .i64 (lL Q Q 0))) none) := gb_setNew (gb_setNew (gb_setNew (gb_setNew (gb_setNew (B3.out) (by have := B2.out.size; show w.heap.size ≤ u2.heap.size; omega) _) (by have := B2.out.size; show w.heap.size ≤ u2.heap.size; omega) _) (by have := B2.out.size; show w.heap.size ≤ u2.heap.size; omega) _) (by have := B2.out.size; show w.heap.size ≤ u2.heap.size; omega) _) (by have := B2.out.size; show w.heap.size ≤ u2.heap.size; omega) _
          have hx : Hid (sb ≠ u2.heap.size) := Nat.ne_of_lt X2.out.lt
          clear X2 B2 x0 x1 x2 x3 x4 g0 g3 k0 k1 k2 k3 k4 h3 X3 B3 e1 e2 e3 e4 m3 N3 nc0 nc1 nc2 nc3 nc4 nf0 nf1 nf2 nf3 nf4 hb4
          generalize ((((u3.setCell ⟨u2.heap.size, 0, none⟩ (.int .i64 F)).setCell ⟨u2.heap.size, 1, none⟩ (.int .i64 1)).setCell ⟨u2.heap.size, 2, none⟩ (.int .i64 y)).setCell ⟨u2.heap.size, 3, none⟩ (.int .i64 Q)).setCell ⟨u2.heap.size, 4, none⟩ (.int .i64 (lL Q Q 0)) = wa at *
          generalize u2.heap.size = xb at *
          have x0 : (wa).cell? ⟨sb, 0, none⟩ = some (.int .i64 F) := X.out.cell 0
          have x1 : (wa).cell? ⟨sb, 1, none⟩ = some (.int .i64 1) := X.out.cell 1
          have x2 : (wa).cell? ⟨sb, 2, none⟩ = some (.int .i64 y) := X.out.cell 2
          have x3 : (wa).cell? ⟨sb, 3, none⟩ = some (.int .i64 Q) := X.out.cell 3
          have x4 : (wa).cell? ⟨sb, 4, none⟩ = some (.int .i64 0) := X.out.cell 4
          have y0 : (wa).cell? ⟨xb, 0, none⟩ = some (.int .i64 F) := Y.out.cell 0
          have y1 : (wa).cell? ⟨xb, 1, none⟩ = some (.int .i64 1) := Y.out.cell 1
          have y2 : (wa).cell? ⟨xb, 2, none⟩ = some (.int .i64 y) := Y.out.cell 2
          have y3 : (wa).cell? ⟨xb, 3, none⟩ = some (.int .i64 Q) := Y.out.cell 3
          have y4 : (wa).cell? ⟨xb, 4, none⟩ = some (.int .i64 (lL Q Q 0)) := Y.out.cell 4
          have g3 : wa.cell? ⟨b1, off1 + 3, none⟩ = some (.int .i64 Q) := ((gb_below B.out).cell (p := ⟨b1, off1 + 3, none⟩) hb1).trans wc3.out
          have f0 := X.out.free 0
          have f1 := X.out.free 1
          have f2 := X.out.free 2
          have f3 := X.out.free 3
          have f4 := X.out.free 4
          go_wp2
          go_quiet (fail)
          go_wp2
          go_roundw
          case rel => exact ⟨0 + 1, F, 1, Q, (lL Q Q 0), by omega, by go_num, rfl, (((((X.out.drewN _).set 0 _).set 1 _).set 2 _).set 3 _).set 4 _, by omega, by omega, lL_nonneg _ _ _ (by omega), fun hh => by omega, (fun i hi => by rw [show i = 0 by omega]; exact HF.out.symm), gb_setNew (gb_setNew (gb_setNew (gb_setNew (gb_setNew (gb_drewN B.out _) (by have := hsb.out; show w.heap.size ≤ sb; omega) _) (by have := hsb.out; show w.heap.size ≤ sb; omega) _) (by have := hsb.out; show w.heap.size ≤ sb; omega) _) (by have := hsb.out; show w.heap.size ≤ sb; omega) _) (by have := hsb.out; show w.heap.size ≤ sb; omega) _⟩
          case measure => simp [intOf]; omega
      obtain ⟨j, rfl⟩ : ∃ j, k = j + 1 := ⟨k - 1, by omega⟩
      have wc0 := Lib.hid wc0
      have wc1 := Lib.hid wc1
      have wc2 := Lib.hid wc2
      have wc3 := Lib.hid wc3
      have wc4 := Lib.hid wc4
      have hfj := Hfj.out j rfl
      have d0 : wr.cell? ⟨b1, off1 + j * 5, none⟩ = some (.int .i64 f) := by
        rw [hfj]
        exact ((gb_below B.out).cell (p := ⟨b1, off1 + (j * 5 + 0), none⟩) hb1).trans (Hz.out j 0 (by omega) (by omega)).1
      have q1 : (j : Int) + 1 < (len1 : Int) := by omega
      have q2 : 0 ≤ (j : Int) + 1 := by omega
      have q3 : ((j : Int) + 1).toNat = j + 1 := by omega
      have q4 : ((j : Int) + 1 == 0) = false := by simp; omega
      have q5 : IntKind.i64.wrap ((j : Int) + 1 - 1) = j := by rw [show (j : Int) + 1 - 1 = j by omega]; exact IntWalk.i64_in _ (by omega)
      have q6 : IntKind.i64.wrap (j : Int) = j := IntWalk.i64_in _ (by omega)
      have q7 : (j : Int) < (len1 : Int) := by omega
      clear hfj Hf0 Hfj
      by_cases he : f = F
      · subst he
        go_wp2_with fail
        go_quiet (fail)
        go_wp2
        obtain ⟨wq, hWq⟩ : ∃ u : World, u = (wr.drewN nq).drew := ⟨_, rfl⟩
        have XQ := Lib.hid (show Blk 23 wq sb #[.int .i64 f, .int .i64 t, .int .i64 y, .int .i64 p, .int .i64 l] by rw [hWq]; exact X.out)
        have BQ := Lib.hid (show w.grownBy wq none by rw [hWq]; exact gb_drew (gb_drewN B.out _))
        refine wp_region_still_tail 5 (by kernel_rfl) (by kernel_rfl) ?_
        simp only [List.take_succ_cons, List.take_zero, List.drop_succ_cons, List.drop_zero]
        change wpStill _ _ (wr.drewN nq).drew (fun a' => wpList _ _ _ _ a' (wr.drewN nq).drew) _ _
        rw [← hWq]
        clear hWq X B hc0 hc1 hc2 hc3 hc4 d0 hb2 hw
        have hb3 : b1 < wq.heap.size := Nat.lt_of_lt_of_le hb1 BQ.out.size
        have g0 : wq.cell? ⟨b1, off1 + (j + 1) * 5, none⟩ = some (.int .i64 f) := ((gb_below BQ.out).cell (p := ⟨b1, off1 + (j + 1) * 5, none⟩) hb1).trans wc0.out
        have g1 : wq.cell? ⟨b1, off1 + (j + 1) * 5 + 1, none⟩ = some (.int .i64 S) := ((gb_below BQ.out).cell (p := ⟨b1, off1 + (j + 1) * 5 + 1, none⟩) hb1).trans wc1.out
        have g2 : wq.cell? ⟨b1, off1 + (j + 1) * 5 + 2, none⟩ = some (.int .i64 R) := ((gb_below BQ.out).cell (p := ⟨b1, off1 + (j + 1) * 5 + 2, none⟩) hb1).trans wc2.out
        have g3 : wq.cell? ⟨b1, off1 + (j + 1) * 5 + 3, none⟩ = some (.int .i64 Q) := ((gb_below BQ.out).cell (p := ⟨b1, off1 + (j + 1) * 5 + 3, none⟩) hb1).trans wc3.out
        have g4 : wq.cell? ⟨b1, off1 + (j + 1) * 5 + 4, none⟩ = some (.bool V) := ((gb_below BQ.out).cell (p := ⟨b1, off1 + (j + 1) * 5 + 4, none⟩) hb1).trans wc4.out
        have x0 : (wq).cell? ⟨sb, 0, none⟩ = some (.int .i64 f) := XQ.out.cell 0
        have x1 : (wq).cell? ⟨sb, 1, none⟩ = some (.int .i64 t) := XQ.out.cell 1
        have x2 : (wq).cell? ⟨sb, 2, none⟩ = some (.int .i64 y) := XQ.out.cell 2
        have x3 : (wq).cell? ⟨sb, 3, none⟩ = some (.int .i64 p) := XQ.out.cell 3
        have x4 : (wq).cell? ⟨sb, 4, none⟩ = some (.int .i64 l) := XQ.out.cell 4
        repeat still_step
        refine wpStill_nil ?_
        go_wp2_with fail
        refine (met_one f t y p l S R Q V t0 (by omega) _).mono ?_
        rintro e u1 ⟨rfl, m1⟩
        clear x0 x1 x2 x3 x4 g0 g1 g2 g3 g4
        have X1 := Lib.hid (XQ.out.grown m1.out (by simp))
        have B1 := Lib.hid (gb_trans BQ.out m1.out)
        clear XQ BQ m1 hb3
        have x0 : (u1).cell? ⟨sb, 0, none⟩ = some (.int .i64 f) := X1.out.cell 0
        have x1 : (u1).cell? ⟨sb, 1, none⟩ = some (.int .i64 t) := X1.out.cell 1
        have x2 : (u1).cell? ⟨sb, 2, none⟩ = some (.int .i64 y) := X1.out.cell 2
        have x3 : (u1).cell? ⟨sb, 3, none⟩ = some (.int .i64 p) := X1.out.cell 3
        have x4 : (u1).cell? ⟨sb, 4, none⟩ = some (.int .i64 l) := X1.out.cell 4
        have f0 := X1.out.free 0
        have f1 := X1.out.free 1
        have f2 := X1.out.free 2
        have f3 := X1.out.free 3
        have f4 := X1.out.free 4
        go_wp2
        clear x0 x1 x2 x3 x4 f0 f1 f2 f3 f4
        have X2 : Hid (Blk 23 (((((u1.setCell ⟨sb, 0, none⟩ (.int .i64 f)).setCell ⟨sb, 1, none⟩ (.int .i64 (t + 1))).setCell ⟨sb, 2, none⟩ (.int .i64 y)).setCell ⟨sb, 3, none⟩ (.int .i64 p)).setCell ⟨sb, 4, none⟩ (.int .i64 l)) sb #[.int .i64 f, .int .i64 (t + 1), .int .i64 y, .int .i64 p, .int .i64 l]) := ((((X1.out.set 0 _).set 1 _).set 2 _).set 3 _).set 4 _
        have B2 : Hid (w.grownBy (((((u1.setCell ⟨sb, 0, none⟩ (.int .i64 f)).setCell ⟨sb, 1, none⟩ (.int .i64 (t + 1))).setCell ⟨sb, 2, none⟩ (.int .i64 y)).setCell ⟨sb, 3, none⟩ (.int .i64 p)).setCell ⟨sb, 4, none⟩ (.int .i64 l)) none) := gb_setNew (gb_setNew (gb_setNew (gb_setNew (gb_setNew (B1.out) (by have := hsb.out; show w.heap.size ≤ sb; omega) _) (by have := hsb.out; show w.heap.size ≤ sb; omega) _) (by have := hsb.out; show w.heap.size ≤ sb; omega) _) (by have := hsb.out; show w.heap.size ≤ sb; omega) _) (by have := hsb.out; show w.heap.size ≤ sb; omega) _
        clear X1 B1
        generalize ((((u1.setCell ⟨sb, 0, none⟩ (.int .i64 f)).setCell ⟨sb, 1, none⟩ (.int .i64 (t + 1))).setCell ⟨sb, 2, none⟩ (.int .i64 y)).setCell ⟨sb, 3, none⟩ (.int .i64 p)).setCell ⟨sb, 4, none⟩ (.int .i64 l) = u2 at *
        have x0 : (u2).cell? ⟨sb, 0, none⟩ = some (.int .i64 f) := X2.out.cell 0
        have x1 : (u2).cell? ⟨sb, 1, none⟩ = some (.int .i64 (t + 1)) := X2.out.cell 1
        have x2 : (u2).cell? ⟨sb, 2, none⟩ = some (.int .i64 y) := X2.out.cell 2
        have x3 : (u2).cell? ⟨sb, 3, none⟩ = some (.int .i64 p) := X2.out.cell 3
        have x4 : (u2).cell? ⟨sb, 4, none⟩ = some (.int .i64 l) := X2.out.cell 4
        have g0 : u2.cell? ⟨b1, off1 + (j + 1) * 5, none⟩ = some (.int .i64 f) := ((gb_below B2.out).cell (p := ⟨b1, off1 + (j + 1) * 5, none⟩) hb1).trans wc0.out
        have g3 : u2.cell? ⟨b1, off1 + (j + 1) * 5 + 3, none⟩ = some (.int .i64 Q) := ((gb_below B2.out).cell (p := ⟨b1, off1 + (j + 1) * 5 + 3, none⟩) hb1).trans wc3.out
        have hb4 : b1 < u2.heap.size := Nat.lt_of_lt_of_le hb1 B2.out.size
        go_quiet (fail)
        go_wp2
        have e1 := World.new_ne u2 _ x0
        have e2 := World.new_ne u2 _ g3
        go_region_held3 (fun w' => w'.cell? ⟨sb, 0, none⟩ = some (.int .i64 f) ∧ w'.cell? ⟨sb, 1, none⟩ = some (.int .i64 (t + 1)) ∧ w'.cell? ⟨sb, 2, none⟩ = some (.int .i64 y) ∧ w'.cell? ⟨sb, 3, none⟩ = some (.int .i64 p) ∧ w'.cell? ⟨sb, 4, none⟩ = some (.int .i64 l) ∧ w'.cell? ⟨b1, off1 + (j + 1) * 5 + 3, none⟩ = some (.int .i64 Q)) (go_keep) ((go_at_call 11; refine (look_any f (t + 1) y p l Q n (by omega) _).mono ?_; rintro e u3 ⟨rfl, m3⟩; have X3 := Lib.hid (X2.out.grown (gb_trans (by repeat (first | exact gb_refl _ _ | refine gb_drewN ?_ _ | refine gb_drew ?_ | refine gb_alloc ?_ _)) m3.out) (by simp)); have k0 : u3.cell? ⟨sb, 0, none⟩ = some (.int .i64 f) := X3.out.cell 0; have k1 : u3.cell? ⟨sb, 1, none⟩ = some (.int .i64 (t + 1)) := X3.out.cell 1; have k2 : u3.cell? ⟨sb, 2, none⟩ = some (.int .i64 y) := X3.out.cell 2; have k3 : u3.cell? ⟨sb, 3, none⟩ = some (.int .i64 p) := X3.out.cell 3; have k4 : u3.cell? ⟨sb, 4, none⟩ = some (.int .i64 l) := X3.out.cell 4; have B3 := Lib.hid (gb_trans B2.out (gb_trans (by repeat (first | exact gb_refl _ _ | refine gb_drewN ?_ _ | refine gb_drew ?_ | refine gb_alloc ?_ _)) m3.out)); have h3 := ((gb_below B3.out).cell (p := ⟨b1, off1 + (j + 1) * 5 + 3, none⟩) hb1).trans wc3.out; have e3 := World.new_ne u3 _ k0; have e4 := World.new_ne u3 _ h3; (first | (have N3 := Lib.hid (Blk.grown (t := 23) (b := u2.heap.size) (cs := #[.int .i64 0, .int .i64 0, .int .i64 0, .int .i64 0, .int .i64 0]) (by first | exact Blk.made _ _ _ | exact (Blk.made _ _ _).drew | exact (Blk.made _ _ _).drewN _) m3.out (by simp)); have nc0 := N3.out.cell 0; have nf0 := N3.out.free 0; have nc1 := N3.out.cell 1; have nf1 := N3.out.free 1; have nc2 := N3.out.cell 2; have nf2 := N3.out.free 2; have nc3 := N3.out.cell 3; have nf3 := N3.out.free 3; have nc4 := N3.out.cell 4; have nf4 := N3.out.free 4) | skip)))
        · have Y : Hid (Blk 23 (u3.alloc (.cells #[.int .i64 f, .int .i64 (t + 1), .int .i64 y, .int .i64 Q, .int .i64 (lL p Q l)] 23)) u3.heap.size #[.int .i64 f, .int .i64 (t + 1), .int .i64 y, .int .i64 Q, .int .i64 (lL p Q l)]) := Blk.made u3 23 _
          have X : Hid (Blk 23 (u3.alloc (.cells #[.int .i64 f, .int .i64 (t + 1), .int .i64 y, .int .i64 Q, .int .i64 (lL p Q l)] 23)) sb #[.int .i64 f, .int .i64 (t + 1), .int .i64 y, .int .i64 p, .int .i64 l]) := X3.out.alloc _
          have B : Hid (w.grownBy (u3.alloc (.cells #[.int .i64 f, .int .i64 (t + 1), .int .i64 y, .int .i64 Q, .int .i64 (lL p Q l)] 23)) none) := gb_alloc B3.out _
          have hx : Hid (sb ≠ u3.heap.size) := Nat.ne_of_lt X3.out.lt
          clear X2 B2 x0 x1 x2 x3 x4 g0 g3 k0 k1 k2 k3 k4 h3 X3 B3 e1 e2 e3 e4 m3 hb4
          generalize u3.alloc (.cells #[.int .i64 f, .int .i64 (t + 1), .int .i64 y, .int .i64 Q, .int .i64 (lL p Q l)] 23) = wa at *
          generalize u3.heap.size = xb at *
          have x0 : (wa).cell? ⟨sb, 0, none⟩ = some (.int .i64 f) := X.out.cell 0
          have x1 : (wa).cell? ⟨sb, 1, none⟩ = some (.int .i64 (t + 1)) := X.out.cell 1
          have x2 : (wa).cell? ⟨sb, 2, none⟩ = some (.int .i64 y) := X.out.cell 2
          have x3 : (wa).cell? ⟨sb, 3, none⟩ = some (.int .i64 p) := X.out.cell 3
          have x4 : (wa).cell? ⟨sb, 4, none⟩ = some (.int .i64 l) := X.out.cell 4
          have y0 : (wa).cell? ⟨xb, 0, none⟩ = some (.int .i64 f) := Y.out.cell 0
          have y1 : (wa).cell? ⟨xb, 1, none⟩ = some (.int .i64 (t + 1)) := Y.out.cell 1
          have y2 : (wa).cell? ⟨xb, 2, none⟩ = some (.int .i64 y) := Y.out.cell 2
          have y3 : (wa).cell? ⟨xb, 3, none⟩ = some (.int .i64 Q) := Y.out.cell 3
          have y4 : (wa).cell? ⟨xb, 4, none⟩ = some (.int .i64 (lL p Q l)) := Y.out.cell 4
          have g3 : wa.cell? ⟨b1, off1 + (j + 1) * 5 + 3, none⟩ = some (.int .i64 Q) := ((gb_below B.out).cell (p := ⟨b1, off1 + (j + 1) * 5 + 3, none⟩) hb1).trans wc3.out
          have f0 := X.out.free 0
          have f1 := X.out.free 1
          have f2 := X.out.free 2
          have f3 := X.out.free 3
          have f4 := X.out.free 4
          go_wp2
          go_quiet (fail)
          go_wp2
          go_roundw
          case rel => exact ⟨j + 1 + 1, f, (t + 1), Q, (lL p Q l), by omega, by go_num, rfl, (((((X.out.drewN _).set 0 _).set 1 _).set 2 _).set 3 _).set 4 _, by omega, by omega, lL_nonneg _ _ _ (by omega), fun hh => by omega, (fun i hi => by rw [show i = j + 1 by omega]; exact HF.out.symm), gb_setNew (gb_setNew (gb_setNew (gb_setNew (gb_setNew (gb_drewN B.out _) (by have := hsb.out; show w.heap.size ≤ sb; omega) _) (by have := hsb.out; show w.heap.size ≤ sb; omega) _) (by have := hsb.out; show w.heap.size ≤ sb; omega) _) (by have := hsb.out; show w.heap.size ≤ sb; omega) _) (by have := hsb.out; show w.heap.size ≤ sb; omega) _⟩
          case measure => simp [intOf]; omega
        · have Y : Hid (Blk 23 (((((u3.setCell ⟨u2.heap.size, 0, none⟩ (.int .i64 f)).setCell ⟨u2.heap.size, 1, none⟩ (.int .i64 (t + 1))).setCell ⟨u2.heap.size, 2, none⟩ (.int .i64 y)).setCell ⟨u2.heap.size, 3, none⟩ (.int .i64 Q)).setCell ⟨u2.heap.size, 4, none⟩ (.int .i64 (lL p Q l))) u2.heap.size #[.int .i64 f, .int .i64 (t + 1), .int .i64 y, .int .i64 Q, .int .i64 (lL p Q l)]) := ((((N3.out.set 0 _).set 1 _).set 2 _).set 3 _).set 4 _
          have X : Hid (Blk 23 (((((u3.setCell ⟨u2.heap.size, 0, none⟩ (.int .i64 f)).setCell ⟨u2.heap.size, 1, none⟩ (.int .i64 (t + 1))).setCell ⟨u2.heap.size, 2, none⟩ (.int .i64 y)).setCell ⟨u2.heap.size, 3, none⟩ (.int .i64 Q)).setCell ⟨u2.heap.size, 4, none⟩ (.int .i64 (lL p Q l))) sb #[.int .i64 f, .int .i64 (t + 1), .int .i64 y, .int .i64 p, .int .i64 l]) := ((((X3.out.other (p := ⟨u2.heap.size, 0, none⟩) (by have := X2.out.lt; show sb ≠ u2.heap.size; omega) _).other (p := ⟨u2.heap.size, 1, none⟩) (by have := X2.out.lt; show sb ≠ u2.heap.size; omega) _).other (p := ⟨u2.heap.size, 2, none⟩) (by have := X2.out.lt; show sb ≠ u2.heap.size; omega) _).other (p := ⟨u2.heap.size, 3, none⟩) (by have := X2.out.lt; show sb ≠ u2.heap.size; omega) _).other (p := ⟨u2.heap.size, 4, none⟩) (by have := X2.out.lt; show sb ≠ u2.heap.size; omega) _
          have B : Hid (w.grownBy (((((u3.setCell ⟨u2.heap.size, 0, none⟩ (.int .i64 f)).setCell ⟨u2.heap.size, 1, none⟩ (.int .i64 (t + 1))).setCell ⟨u2.heap.size, 2, none⟩ (.int .i64 y)).setCell ⟨u2.heap.size, 3, none⟩ (.int .i64 Q)).setCell ⟨u2.heap.size, 4, none⟩ (.int .i64 (lL p Q l))) none) := gb_setNew (gb_setNew (gb_setNew (gb_setNew (gb_setNew (B3.out) (by have := B2.out.size; show w.heap.size ≤ u2.heap.size; omega) _) (by have := B2.out.size; show w.heap.size ≤ u2.heap.size; omega) _) (by have := B2.out.size; show w.heap.size ≤ u2.heap.size; omega) _) (by have := B2.out.size; show w.heap.size ≤ u2.heap.size; omega) _) (by have := B2.out.size; show w.heap.size ≤ u2.heap.size; omega) _
          have hx : Hid (sb ≠ u2.heap.size) := Nat.ne_of_lt X2.out.lt
          clear X2 B2 x0 x1 x2 x3 x4 g0 g3 k0 k1 k2 k3 k4 h3 X3 B3 e1 e2 e3 e4 m3 N3 nc0 nc1 nc2 nc3 nc4 nf0 nf1 nf2 nf3 nf4 hb4
          generalize ((((u3.setCell ⟨u2.heap.size, 0, none⟩ (.int .i64 f)).setCell ⟨u2.heap.size, 1, none⟩ (.int .i64 (t + 1))).setCell ⟨u2.heap.size, 2, none⟩ (.int .i64 y)).setCell ⟨u2.heap.size, 3, none⟩ (.int .i64 Q)).setCell ⟨u2.heap.size, 4, none⟩ (.int .i64 (lL p Q l)) = wa at *
          generalize u2.heap.size = xb at *
          have x0 : (wa).cell? ⟨sb, 0, none⟩ = some (.int .i64 f) := X.out.cell 0
          have x1 : (wa).cell? ⟨sb, 1, none⟩ = some (.int .i64 (t + 1)) := X.out.cell 1
          have x2 : (wa).cell? ⟨sb, 2, none⟩ = some (.int .i64 y) := X.out.cell 2
          have x3 : (wa).cell? ⟨sb, 3, none⟩ = some (.int .i64 p) := X.out.cell 3
          have x4 : (wa).cell? ⟨sb, 4, none⟩ = some (.int .i64 l) := X.out.cell 4
          have y0 : (wa).cell? ⟨xb, 0, none⟩ = some (.int .i64 f) := Y.out.cell 0
          have y1 : (wa).cell? ⟨xb, 1, none⟩ = some (.int .i64 (t + 1)) := Y.out.cell 1
          have y2 : (wa).cell? ⟨xb, 2, none⟩ = some (.int .i64 y) := Y.out.cell 2
          have y3 : (wa).cell? ⟨xb, 3, none⟩ = some (.int .i64 Q) := Y.out.cell 3
          have y4 : (wa).cell? ⟨xb, 4, none⟩ = some (.int .i64 (lL p Q l)) := Y.out.cell 4
          have g3 : wa.cell? ⟨b1, off1 + (j + 1) * 5 + 3, none⟩ = some (.int .i64 Q) := ((gb_below B.out).cell (p := ⟨b1, off1 + (j + 1) * 5 + 3, none⟩) hb1).trans wc3.out
          have f0 := X.out.free 0
          have f1 := X.out.free 1
          have f2 := X.out.free 2
          have f3 := X.out.free 3
          have f4 := X.out.free 4
          go_wp2
          go_quiet (fail)
          go_wp2
          go_roundw
          case rel => exact ⟨j + 1 + 1, f, (t + 1), Q, (lL p Q l), by omega, by go_num, rfl, (((((X.out.drewN _).set 0 _).set 1 _).set 2 _).set 3 _).set 4 _, by omega, by omega, lL_nonneg _ _ _ (by omega), fun hh => by omega, (fun i hi => by rw [show i = j + 1 by omega]; exact HF.out.symm), gb_setNew (gb_setNew (gb_setNew (gb_setNew (gb_setNew (gb_drewN B.out _) (by have := hsb.out; show w.heap.size ≤ sb; omega) _) (by have := hsb.out; show w.heap.size ≤ sb; omega) _) (by have := hsb.out; show w.heap.size ≤ sb; omega) _) (by have := hsb.out; show w.heap.size ≤ sb; omega) _) (by have := hsb.out; show w.heap.size ≤ sb; omega) _⟩
          case measure => simp [intOf]; omega
      · have he1 : (F != f) = true := by simpa using fun h => he h.symm
        have he2 : (f == F) = false := by simpa using he
        have HE := Lib.hid he2
        clear he he2
        go_wp2_with fail
        go_quiet (fail)
        go_wp2
        obtain ⟨wq, hWq⟩ : ∃ u : World, u = (wr.drewN nq).drew := ⟨_, rfl⟩
        have XQ := Lib.hid (show Blk 23 wq sb #[.int .i64 f, .int .i64 t, .int .i64 y, .int .i64 p, .int .i64 l] by rw [hWq]; exact X.out)
        have BQ := Lib.hid (show w.grownBy wq none by rw [hWq]; exact gb_drew (gb_drewN B.out _))
        refine wp_region_still_tail 5 (by kernel_rfl) (by kernel_rfl) ?_
        simp only [List.take_succ_cons, List.take_zero, List.drop_succ_cons, List.drop_zero]
        change wpStill _ _ (wr.drewN nq).drew (fun a' => wpList _ _ _ _ a' (wr.drewN nq).drew) _ _
        rw [← hWq]
        clear hWq X B hc0 hc1 hc2 hc3 hc4 d0 hb2 hw
        have hb3 : b1 < wq.heap.size := Nat.lt_of_lt_of_le hb1 BQ.out.size
        have g0 : wq.cell? ⟨b1, off1 + (j + 1) * 5, none⟩ = some (.int .i64 F) := ((gb_below BQ.out).cell (p := ⟨b1, off1 + (j + 1) * 5, none⟩) hb1).trans wc0.out
        have g1 : wq.cell? ⟨b1, off1 + (j + 1) * 5 + 1, none⟩ = some (.int .i64 S) := ((gb_below BQ.out).cell (p := ⟨b1, off1 + (j + 1) * 5 + 1, none⟩) hb1).trans wc1.out
        have g2 : wq.cell? ⟨b1, off1 + (j + 1) * 5 + 2, none⟩ = some (.int .i64 R) := ((gb_below BQ.out).cell (p := ⟨b1, off1 + (j + 1) * 5 + 2, none⟩) hb1).trans wc2.out
        have g3 : wq.cell? ⟨b1, off1 + (j + 1) * 5 + 3, none⟩ = some (.int .i64 Q) := ((gb_below BQ.out).cell (p := ⟨b1, off1 + (j + 1) * 5 + 3, none⟩) hb1).trans wc3.out
        have g4 : wq.cell? ⟨b1, off1 + (j + 1) * 5 + 4, none⟩ = some (.bool V) := ((gb_below BQ.out).cell (p := ⟨b1, off1 + (j + 1) * 5 + 4, none⟩) hb1).trans wc4.out
        have x0 : (wq).cell? ⟨sb, 0, none⟩ = some (.int .i64 f) := XQ.out.cell 0
        have x1 : (wq).cell? ⟨sb, 1, none⟩ = some (.int .i64 t) := XQ.out.cell 1
        have x2 : (wq).cell? ⟨sb, 2, none⟩ = some (.int .i64 y) := XQ.out.cell 2
        have x3 : (wq).cell? ⟨sb, 3, none⟩ = some (.int .i64 p) := XQ.out.cell 3
        have x4 : (wq).cell? ⟨sb, 4, none⟩ = some (.int .i64 l) := XQ.out.cell 4
        repeat still_step
        refine wpStill_nil ?_
        go_wp2_with fail
        refine (met_other f t y p l F S R Q V HE.out _).mono ?_
        rintro e u1 ⟨rfl, m1⟩
        clear x0 x1 x2 x3 x4 g0 g1 g2 g3 g4
        have X1 := Lib.hid (XQ.out.grown m1.out (by simp))
        have B1 := Lib.hid (gb_trans BQ.out m1.out)
        clear XQ BQ m1 hb3
        have x0 : (u1).cell? ⟨sb, 0, none⟩ = some (.int .i64 f) := X1.out.cell 0
        have x1 : (u1).cell? ⟨sb, 1, none⟩ = some (.int .i64 t) := X1.out.cell 1
        have x2 : (u1).cell? ⟨sb, 2, none⟩ = some (.int .i64 y) := X1.out.cell 2
        have x3 : (u1).cell? ⟨sb, 3, none⟩ = some (.int .i64 p) := X1.out.cell 3
        have x4 : (u1).cell? ⟨sb, 4, none⟩ = some (.int .i64 l) := X1.out.cell 4
        have f0 := X1.out.free 0
        have f1 := X1.out.free 1
        have f2 := X1.out.free 2
        have f3 := X1.out.free 3
        have f4 := X1.out.free 4
        go_wp2
        clear x0 x1 x2 x3 x4 f0 f1 f2 f3 f4
        have X2 : Hid (Blk 23 (((((u1.setCell ⟨sb, 0, none⟩ (.int .i64 F)).setCell ⟨sb, 1, none⟩ (.int .i64 1)).setCell ⟨sb, 2, none⟩ (.int .i64 y)).setCell ⟨sb, 3, none⟩ (.int .i64 Q)).setCell ⟨sb, 4, none⟩ (.int .i64 0)) sb #[.int .i64 F, .int .i64 1, .int .i64 y, .int .i64 Q, .int .i64 0]) := ((((X1.out.set 0 _).set 1 _).set 2 _).set 3 _).set 4 _
        have B2 : Hid (w.grownBy (((((u1.setCell ⟨sb, 0, none⟩ (.int .i64 F)).setCell ⟨sb, 1, none⟩ (.int .i64 1)).setCell ⟨sb, 2, none⟩ (.int .i64 y)).setCell ⟨sb, 3, none⟩ (.int .i64 Q)).setCell ⟨sb, 4, none⟩ (.int .i64 0)) none) := gb_setNew (gb_setNew (gb_setNew (gb_setNew (gb_setNew (B1.out) (by have := hsb.out; show w.heap.size ≤ sb; omega) _) (by have := hsb.out; show w.heap.size ≤ sb; omega) _) (by have := hsb.out; show w.heap.size ≤ sb; omega) _) (by have := hsb.out; show w.heap.size ≤ sb; omega) _) (by have := hsb.out; show w.heap.size ≤ sb; omega) _
        clear X1 B1
        generalize ((((u1.setCell ⟨sb, 0, none⟩ (.int .i64 F)).setCell ⟨sb, 1, none⟩ (.int .i64 1)).setCell ⟨sb, 2, none⟩ (.int .i64 y)).setCell ⟨sb, 3, none⟩ (.int .i64 Q)).setCell ⟨sb, 4, none⟩ (.int .i64 0) = u2 at *
        have x0 : (u2).cell? ⟨sb, 0, none⟩ = some (.int .i64 F) := X2.out.cell 0
        have x1 : (u2).cell? ⟨sb, 1, none⟩ = some (.int .i64 1) := X2.out.cell 1
        have x2 : (u2).cell? ⟨sb, 2, none⟩ = some (.int .i64 y) := X2.out.cell 2
        have x3 : (u2).cell? ⟨sb, 3, none⟩ = some (.int .i64 Q) := X2.out.cell 3
        have x4 : (u2).cell? ⟨sb, 4, none⟩ = some (.int .i64 0) := X2.out.cell 4
        have g0 : u2.cell? ⟨b1, off1 + (j + 1) * 5, none⟩ = some (.int .i64 F) := ((gb_below B2.out).cell (p := ⟨b1, off1 + (j + 1) * 5, none⟩) hb1).trans wc0.out
        have g3 : u2.cell? ⟨b1, off1 + (j + 1) * 5 + 3, none⟩ = some (.int .i64 Q) := ((gb_below B2.out).cell (p := ⟨b1, off1 + (j + 1) * 5 + 3, none⟩) hb1).trans wc3.out
        have hb4 : b1 < u2.heap.size := Nat.lt_of_lt_of_le hb1 B2.out.size
        go_quiet (fail)
        go_wp2
        have e1 := World.new_ne u2 _ x0
        have e2 := World.new_ne u2 _ g3
        go_region_held3 (fun w' => w'.cell? ⟨sb, 0, none⟩ = some (.int .i64 F) ∧ w'.cell? ⟨sb, 1, none⟩ = some (.int .i64 1) ∧ w'.cell? ⟨sb, 2, none⟩ = some (.int .i64 y) ∧ w'.cell? ⟨sb, 3, none⟩ = some (.int .i64 Q) ∧ w'.cell? ⟨sb, 4, none⟩ = some (.int .i64 0) ∧ w'.cell? ⟨b1, off1 + (j + 1) * 5 + 3, none⟩ = some (.int .i64 Q)) (go_keep) ((go_at_call 11; refine (look_any F 1 y Q 0 Q n (by omega) _).mono ?_; rintro e u3 ⟨rfl, m3⟩; have X3 := Lib.hid (X2.out.grown (gb_trans (by repeat (first | exact gb_refl _ _ | refine gb_drewN ?_ _ | refine gb_drew ?_ | refine gb_alloc ?_ _)) m3.out) (by simp)); have k0 : u3.cell? ⟨sb, 0, none⟩ = some (.int .i64 F) := X3.out.cell 0; have k1 : u3.cell? ⟨sb, 1, none⟩ = some (.int .i64 1) := X3.out.cell 1; have k2 : u3.cell? ⟨sb, 2, none⟩ = some (.int .i64 y) := X3.out.cell 2; have k3 : u3.cell? ⟨sb, 3, none⟩ = some (.int .i64 Q) := X3.out.cell 3; have k4 : u3.cell? ⟨sb, 4, none⟩ = some (.int .i64 0) := X3.out.cell 4; have B3 := Lib.hid (gb_trans B2.out (gb_trans (by repeat (first | exact gb_refl _ _ | refine gb_drewN ?_ _ | refine gb_drew ?_ | refine gb_alloc ?_ _)) m3.out)); have h3 := ((gb_below B3.out).cell (p := ⟨b1, off1 + (j + 1) * 5 + 3, none⟩) hb1).trans wc3.out; have e3 := World.new_ne u3 _ k0; have e4 := World.new_ne u3 _ h3; (first | (have N3 := Lib.hid (Blk.grown (t := 23) (b := u2.heap.size) (cs := #[.int .i64 0, .int .i64 0, .int .i64 0, .int .i64 0, .int .i64 0]) (by first | exact Blk.made _ _ _ | exact (Blk.made _ _ _).drew | exact (Blk.made _ _ _).drewN _) m3.out (by simp)); have nc0 := N3.out.cell 0; have nf0 := N3.out.free 0; have nc1 := N3.out.cell 1; have nf1 := N3.out.free 1; have nc2 := N3.out.cell 2; have nf2 := N3.out.free 2; have nc3 := N3.out.cell 3; have nf3 := N3.out.free 3; have nc4 := N3.out.cell 4; have nf4 := N3.out.free 4) | skip)))
        · have Y : Hid (Blk 23 (u3.alloc (.cells #[.int .i64 F, .int .i64 1, .int .i64 y, .int .i64 Q, .int .i64 (lL Q Q 0)] 23)) u3.heap.size #[.int .i64 F, .int .i64 1, .int .i64 y, .int .i64 Q, .int .i64 (lL Q Q 0)]) := Blk.made u3 23 _
          have X : Hid (Blk 23 (u3.alloc (.cells #[.int .i64 F, .int .i64 1, .int .i64 y, .int .i64 Q, .int .i64 (lL Q Q 0)] 23)) sb #[.int .i64 F, .int .i64 1, .int .i64 y, .int .i64 Q, .int .i64 0]) := X3.out.alloc _
          have B : Hid (w.grownBy (u3.alloc (.cells #[.int .i64 F, .int .i64 1, .int .i64 y, .int .i64 Q, .int .i64 (lL Q Q 0)] 23)) none) := gb_alloc B3.out _
          have hx : Hid (sb ≠ u3.heap.size) := Nat.ne_of_lt X3.out.lt
          clear X2 B2 x0 x1 x2 x3 x4 g0 g3 k0 k1 k2 k3 k4 h3 X3 B3 e1 e2 e3 e4 m3 hb4
          generalize u3.alloc (.cells #[.int .i64 F, .int .i64 1, .int .i64 y, .int .i64 Q, .int .i64 (lL Q Q 0)] 23) = wa at *
          generalize u3.heap.size = xb at *
          have x0 : (wa).cell? ⟨sb, 0, none⟩ = some (.int .i64 F) := X.out.cell 0
          have x1 : (wa).cell? ⟨sb, 1, none⟩ = some (.int .i64 1) := X.out.cell 1
          have x2 : (wa).cell? ⟨sb, 2, none⟩ = some (.int .i64 y) := X.out.cell 2
          have x3 : (wa).cell? ⟨sb, 3, none⟩ = some (.int .i64 Q) := X.out.cell 3
          have x4 : (wa).cell? ⟨sb, 4, none⟩ = some (.int .i64 0) := X.out.cell 4
          have y0 : (wa).cell? ⟨xb, 0, none⟩ = some (.int .i64 F) := Y.out.cell 0
          have y1 : (wa).cell? ⟨xb, 1, none⟩ = some (.int .i64 1) := Y.out.cell 1
          have y2 : (wa).cell? ⟨xb, 2, none⟩ = some (.int .i64 y) := Y.out.cell 2
          have y3 : (wa).cell? ⟨xb, 3, none⟩ = some (.int .i64 Q) := Y.out.cell 3
          have y4 : (wa).cell? ⟨xb, 4, none⟩ = some (.int .i64 (lL Q Q 0)) := Y.out.cell 4
          have g3 : wa.cell? ⟨b1, off1 + (j + 1) * 5 + 3, none⟩ = some (.int .i64 Q) := ((gb_below B.out).cell (p := ⟨b1, off1 + (j + 1) * 5 + 3, none⟩) hb1).trans wc3.out
          have f0 := X.out.free 0
          have f1 := X.out.free 1
          have f2 := X.out.free 2
          have f3 := X.out.free 3
          have f4 := X.out.free 4
          go_wp2
          go_quiet (fail)
          go_wp2
          go_roundw
          case rel => exact ⟨j + 1 + 1, F, 1, Q, (lL Q Q 0), by omega, by go_num, rfl, (((((X.out.drewN _).set 0 _).set 1 _).set 2 _).set 3 _).set 4 _, by omega, by omega, lL_nonneg _ _ _ (by omega), fun hh => by omega, (fun i hi => by rw [show i = j + 1 by omega]; exact HF.out.symm), gb_setNew (gb_setNew (gb_setNew (gb_setNew (gb_setNew (gb_drewN B.out _) (by have := hsb.out; show w.heap.size ≤ sb; omega) _) (by have := hsb.out; show w.heap.size ≤ sb; omega) _) (by have := hsb.out; show w.heap.size ≤ sb; omega) _) (by have := hsb.out; show w.heap.size ≤ sb; omega) _) (by have := hsb.out; show w.heap.size ≤ sb; omega) _⟩
          case measure => simp [intOf]; omega
        · have Y : Hid (Blk 23 (((((u3.setCell ⟨u2.heap.size, 0, none⟩ (.int .i64 F)).setCell ⟨u2.heap.size, 1, none⟩ (.int .i64 1)).setCell ⟨u2.heap.size, 2, none⟩ (.int .i64 y)).setCell ⟨u2.heap.size, 3, none⟩ (.int .i64 Q)).setCell ⟨u2.heap.size, 4, none⟩ (.int .i64 (lL Q Q 0))) u2.heap.size #[.int .i64 F, .int .i64 1, .int .i64 y, .int .i64 Q, .int .i64 (lL Q Q 0)]) := ((((N3.out.set 0 _).set 1 _).set 2 _).set 3 _).set 4 _
          have X : Hid (Blk 23 (((((u3.setCell ⟨u2.heap.size, 0, none⟩ (.int .i64 F)).setCell ⟨u2.heap.size, 1, none⟩ (.int .i64 1)).setCell ⟨u2.heap.size, 2, none⟩ (.int .i64 y)).setCell ⟨u2.heap.size, 3, none⟩ (.int .i64 Q)).setCell ⟨u2.heap.size, 4, none⟩ (.int .i64 (lL Q Q 0))) sb #[.int .i64 F, .int .i64 1, .int .i64 y, .int .i64 Q, .int .i64 0]) := ((((X3.out.other (p := ⟨u2.heap.size, 0, none⟩) (by have := X2.out.lt; show sb ≠ u2.heap.size; omega) _).other (p := ⟨u2.heap.size, 1, none⟩) (by have := X2.out.lt; show sb ≠ u2.heap.size; omega) _).other (p := ⟨u2.heap.size, 2, none⟩) (by have := X2.out.lt; show sb ≠ u2.heap.size; omega) _).other (p := ⟨u2.heap.size, 3, none⟩) (by have := X2.out.lt; show sb ≠ u2.heap.size; omega) _).other (p := ⟨u2.heap.size, 4, none⟩) (by have := X2.out.lt; show sb ≠ u2.heap.size; omega) _
          have B : Hid (w.grownBy (((((u3.setCell ⟨u2.heap.size, 0, none⟩ (.int .i64 F)).setCell ⟨u2.heap.size, 1, none⟩ (.int .i64 1)).setCell ⟨u2.heap.size, 2, none⟩ (.int .i64 y)).setCell ⟨u2.heap.size, 3, none⟩ (.int .i64 Q)).setCell ⟨u2.heap.size, 4, none⟩ (.int .i64 (lL Q Q 0))) none) := gb_setNew (gb_setNew (gb_setNew (gb_setNew (gb_setNew (B3.out) (by have := B2.out.size; show w.heap.size ≤ u2.heap.size; omega) _) (by have := B2.out.size; show w.heap.size ≤ u2.heap.size; omega) _) (by have := B2.out.size; show w.heap.size ≤ u2.heap.size; omega) _) (by have := B2.out.size; show w.heap.size ≤ u2.heap.size; omega) _) (by have := B2.out.size; show w.heap.size ≤ u2.heap.size; omega) _
          have hx : Hid (sb ≠ u2.heap.size) := Nat.ne_of_lt X2.out.lt
          clear X2 B2 x0 x1 x2 x3 x4 g0 g3 k0 k1 k2 k3 k4 h3 X3 B3 e1 e2 e3 e4 m3 N3 nc0 nc1 nc2 nc3 nc4 nf0 nf1 nf2 nf3 nf4 hb4
          generalize ((((u3.setCell ⟨u2.heap.size, 0, none⟩ (.int .i64 F)).setCell ⟨u2.heap.size, 1, none⟩ (.int .i64 1)).setCell ⟨u2.heap.size, 2, none⟩ (.int .i64 y)).setCell ⟨u2.heap.size, 3, none⟩ (.int .i64 Q)).setCell ⟨u2.heap.size, 4, none⟩ (.int .i64 (lL Q Q 0)) = wa at *
          generalize u2.heap.size = xb at *
          have x0 : (wa).cell? ⟨sb, 0, none⟩ = some (.int .i64 F) := X.out.cell 0
          have x1 : (wa).cell? ⟨sb, 1, none⟩ = some (.int .i64 1) := X.out.cell 1
          have x2 : (wa).cell? ⟨sb, 2, none⟩ = some (.int .i64 y) := X.out.cell 2
          have x3 : (wa).cell? ⟨sb, 3, none⟩ = some (.int .i64 Q) := X.out.cell 3
          have x4 : (wa).cell? ⟨sb, 4, none⟩ = some (.int .i64 0) := X.out.cell 4
          have y0 : (wa).cell? ⟨xb, 0, none⟩ = some (.int .i64 F) := Y.out.cell 0
          have y1 : (wa).cell? ⟨xb, 1, none⟩ = some (.int .i64 1) := Y.out.cell 1
          have y2 : (wa).cell? ⟨xb, 2, none⟩ = some (.int .i64 y) := Y.out.cell 2
          have y3 : (wa).cell? ⟨xb, 3, none⟩ = some (.int .i64 Q) := Y.out.cell 3
          have y4 : (wa).cell? ⟨xb, 4, none⟩ = some (.int .i64 (lL Q Q 0)) := Y.out.cell 4
          have g3 : wa.cell? ⟨b1, off1 + (j + 1) * 5 + 3, none⟩ = some (.int .i64 Q) := ((gb_below B.out).cell (p := ⟨b1, off1 + (j + 1) * 5 + 3, none⟩) hb1).trans wc3.out
          have f0 := X.out.free 0
          have f1 := X.out.free 1
          have f2 := X.out.free 2
          have f3 := X.out.free 3
          have f4 := X.out.free 4
          go_wp2
          go_quiet (fail)
          go_wp2
          go_roundw
          case rel => exact ⟨j + 1 + 1, F, 1, Q, (lL Q Q 0), by omega, by go_num, rfl, (((((X.out.drewN _).set 0 _).set 1 _).set 2 _).set 3 _).set 4 _, by omega, by omega, lL_nonneg _ _ _ (by omega), fun hh => by omega, (fun i hi => by rw [show i = j + 1 by omega]; exact HF.out.symm), gb_setNew (gb_setNew (gb_setNew (gb_setNew (gb_setNew (gb_drewN B.out _) (by have := hsb.out; show w.heap.size ≤ sb; omega) _) (by have := hsb.out; show w.heap.size ≤ sb; omega) _) (by have := hsb.out; show w.heap.size ≤ sb; omega) _) (by have := hsb.out; show w.heap.size ≤ sb; omega) _) (by have := hsb.out; show w.heap.size ≤ sb; omega) _⟩
          case measure => simp [intOf]; omega
    · go_wp2
      go_ret
      exact ⟨rfl, gb_below B.out⟩

theorem walk (a0 : Int) (a1 : Option Addr) (len1 cap1 : Nat) (z1 : Nat → Nat → Int) (y1 : Nat → Nat → Bool) (a2 : Int) (w : World) (w0 : (Lit.int .i64 a0).wf = true) (w1 : IsMix 5 (fun j => j == 4) w a1 len1 cap1 z1 y1) (w2 : (Lit.int .i64 a2).wf = true) :
    Calls Try.prog 6 #[.int .i64 a0, .slice a1 len1 cap1, .int .i64 a2] w fun e w' => e = .returned (.bool true) ∧ Below w.heap.size w w' := by
  by_cases h : 100 < (len1 : Int)
  · exact walk_long a0 a1 len1 cap1 a2 w h
  · exact walk_short a0 a1 len1 cap1 z1 y1 a2 w w1 h

theorem own : ownKnob Try.prog.godebug = none := by kernel_rfl
theorem laidOut : laidOutB Try.prog = true := by kernel_rfl

/-! ### THE ROW's STEP, as the guide has it -/
set_option maxRecDepth 100000 in
theorem lifted (os : Os) (started : os.Started) (H : Type) (enc : TypeId × Value → H) :
    ReturnsInHanded {} Try.checked os 6 .any (Rows.choiceKeepsSpec.pre6 enc Try.prog Try.f6 Rows.choiceKeepsRow.domain false) (Rows.choiceKeepsSpec.post enc Try.prog Try.f6 false true false false) := by
  refine returnsInHanded_of_change (C := Try.checked) own started (by kernel_rfl) Try.func6
    (ChangeSpec.witness6 (enc := enc) (C := Try.checked) false ⟨#[], #[.int .i64 0, .slice none 0 0, .int .i64 0], []⟩ 8 (by kernel_rfl) (by kernel_rfl) (by kernel_rfl) (by kernel_rfl)) ?_
  intro W base args ds gs before hval0 hW hcnd _
  have hval : ∀ (j : Nat) t v, Try.f6.params[j]? = some t → args[j]? = some v → Value.okWide Try.prog W .any base t v := hval0
  have hW' := hW
  obtain ⟨p, q, hA0, hV, rfl, hfz, hnd⟩ := hW
  have hA : DataW.TrodAll enc Try.prog W 0 (fun _ => true) true Try.f6.params.toList args.toList ds p := hA0
  rw [Try.params6] at hA hval
  obtain ⟨v0, vs0, d0, ds0, p0, q0, hargs, rfl, rfl, h0, r0⟩ := trodAll_cons hA
  obtain ⟨v1, vs1, d1, ds1, p1, q1, rfl, rfl, rfl, h1, r1⟩ := trodAll_cons r0
  obtain ⟨v2, vs2, d2, ds2, p2, q2, rfl, rfl, rfl, h2, r2⟩ := trodAll_cons r1
  obtain ⟨rfl, rfl, rfl⟩ := trodAll_nil r2
  obtain rfl : args = #[v0, v1, v2] := by cases args; simp_all
  obtain ⟨rfl, rfl⟩ := trodVars_none hV
  obtain ⟨a0, rfl, rfl, rfl, w0⟩ := open_int Try.underlying3 (hval 0 3 v0 rfl rfl) h0
  obtain ⟨a1, len1, cap1, rfl⟩ := okWide_slice Try.underlying43 (hval 1 43 v1 rfl rfl)
  have k1 := h1
  have lt1 : ∀ x ∈ p1, x.block < W.heap.size := by obtain ⟨m, hm⟩ := k1; exact DataW.trod_lt m _ _ _ hm
  obtain ⟨z1, y1, w1⟩ : ∃ z y, IsMix 5 (fun j => j == 4) W a1 len1 cap1 z y := by
    obtain ⟨fuel, hf⟩ := h1
    exact isMixes_of (fun j => j == 4) Try.underlying43 Try.underlying25 Try.underlying3 Try.underlying4 (by kernel_rfl) (by kernel_rfl) (by kernel_rfl) (by decide) (by decide) hf
  obtain ⟨a2, rfl, rfl, rfl, w2⟩ := open_int Try.underlying3 (hval 2 3 v2 rfl rfl) h2
  clear hA0 hval0
  refine (walk a0 a1 len1 cap1 z1 y1 a2 W w0 w1 w2).mono fun e W' ⟨he, bel⟩ => ?_
  subst he
  exact ⟨_, rfl, _, _, _, [], _, [], hW', trodAll_mk1 (shut_bool Try.underlying4 _), (trodAll_cons_mk (shut_int Try.underlying3 w0) (trodAll_cons_mk (Below.trod laidOut (by kernel_rfl) (of_decide_eq_true (by kernel_rfl)) k1 bel lt1) (trodAll_cons_mk (shut_int Try.underlying3 w2) trodAll_mk0))), rfl, bel.frame _, fun h => by cases h⟩

theorem over : Rows.choiceKeepsRow.holds Try.pinned (OpenSpec.ofChange Rows.choiceKeepsSpec) :=
  OpenClaim.holds_of_wide 6 Try.f6 rfl rfl rfl rfl rfl rfl rfl ⟨rfl, rfl, rfl, rfl, rfl⟩ rfl rfl rfl rfl rfl (by kernel_rfl) Try.func6 (by kernel_rfl)
    (of_decide_eq_true (by kernel_rfl)) (by unfold Func.isWrapper; first | (rw [if_pos (by decide +kernel)]; kernel_rfl) | (rw [if_neg (by decide +kernel)]; exact ⟨rfl, rfl⟩))
    (fun os started H enc _ => lifted os started H enc)

theorem proved : Rows.ChoiceKeepsSaid := over
#print axioms proved
end Go.Proofs.Ytgnnlgadbkmfeaa.choiceKeeps
