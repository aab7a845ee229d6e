/-
  ChoiceStands: who sees one pulse again and again is told so at the look number wait + 1 behind the first, and not ahead of it, and another pulse begins anew; for any side, any wait up to 255, and any other pulse.
  Conditions: none (of a side of a number below 0 the law says nothing by itself).
-/
import Derived.Test.YtgnnlgadbkmfeaaRows
import Derived.Test.YtgnnlgadbkmfeaaOpen
import Derived.Test.YtgnnlgadbkmfeaaOpenB
import Derived.Test.YtgnnlgadbkmfeaaRef05
namespace Go.Proofs.Ytgnnlgadbkmfeaa.choiceStands
open Go.ChangeShapes Go.WideShapes Go.ChangeAt Go.RowKit Go.Proofs.Ytgnnlgadbkmfeaa.base Go.Proofs.Ytgnnlgadbkmfeaa.ch
set_option linter.unusedVariables false

/-- At the head of a round: the state has met the foe once, and looked k times at its pulse; number k + 1 is the next. -/
def Rel (w : World) (sb : Nat) (i st pr q : Int) (b : Bool) (m : Int) (iv : Value) (wr : World) : Prop :=
  ∃ k : Int, 0 ≤ k ∧ k ≤ m + 3 ∧ iv = .int .i64 (k + 1) ∧ Blk 23 wr sb #[.int .i64 i, .int .i64 1, .int .i64 0, .int .i64 q, .int .i64 k] ∧ Blk 25 wr w.heap.size #[.int .i64 i, .int .i64 st, .int .i64 pr, .int .i64 q, .bool b] ∧ w.grownBy wr none

theorem look_one (f t y p l n : Int) (l0 : 0 ≤ l) (l1 : l ≤ 1000) (w : World) :
    Calls Try.prog 11 #[.agg #[.int .i64 f, .int .i64 t, .int .i64 y, .int .i64 p, .int .i64 l], .int .i64 p, .int .i64 n] w fun e w' => e = .returned (.tuple #[.agg #[.int .i64 f, .int .i64 t, .int .i64 y, .int .i64 p, .int .i64 (l + 1)], .bool (decide (n < l + 1))]) ∧ Hid (w.grownBy w' none) := by
  have h := look_same f t y p l n (by omega) w
  rw [show cnt l = l + 1 by unfold cnt; omega] at h
  exact h

theorem look_new (f t y p l q n : Int) (hne : (p == q) = false) (hn : 0 ≤ n) (w : World) :
    Calls Try.prog 11 #[.agg #[.int .i64 f, .int .i64 t, .int .i64 y, .int .i64 p, .int .i64 l], .int .i64 q, .int .i64 n] w fun e w' => e = .returned (.tuple #[.agg #[.int .i64 f, .int .i64 t, .int .i64 y, .int .i64 q, .int .i64 0], .bool false]) ∧ Hid (w.grownBy w' none) := by
  have h := look_other f t y p l q n hne w
  rw [show decide (n < 0) = false by simp; omega] at h
  exact h

set_option maxRecDepth 100000 in
set_option maxHeartbeats 2000000 in
set_option maxRecDepth 100000 in
set_option maxHeartbeats 2000000 in
set_option maxRecDepth 100000 in
set_option maxHeartbeats 2000000 in
theorem walk1 (i st pr q : Int) (b : Bool) (m : Int) (o : Int) (l : 0 ≤ m) (u : m ≤ 255) (w : World) :
    Calls Try.prog 4 #[.agg #[.int .i64 i, .int .i64 st, .int .i64 pr, .int .i64 q, .bool b], .int .u8 m, .int .i64 o] w fun e w' => e = .returned (.bool true) ∧ Below w.heap.size w w' := by
  by_cases hi : i < 0
  · go_enter Try.func4, Try.ntmps4
    go_wp2_with fail
    refine (alive_any _).mono ?_
    rintro e v1 ⟨rfl, g1⟩
    have D1 := Lib.hid ((Blk.made w 25 #[.int .i64 i, .int .i64 st, .int .i64 pr, .int .i64 q, .bool b]).grown g1.out (by simp))
    have d0 := D1.out.cell 0
    go_wp2
    go_ret
    exact ⟨rfl, gb_below (gb_trans (gb_alloc (gb_refl _ _) _) g1.out)⟩
  · go_enter Try.func4, Try.ntmps4
    go_wp2_with fail
    refine (alive_any _).mono ?_
    rintro e v1 ⟨rfl, g1⟩
    have D1 := Lib.hid ((Blk.made w 25 #[.int .i64 i, .int .i64 st, .int .i64 pr, .int .i64 q, .bool b]).grown g1.out (by simp))
    have B1 := Lib.hid (gb_trans (gb_alloc (gb_refl _ _) _) g1.out)
    clear g1
    have d0 : v1.cell? ⟨w.heap.size, 0, none⟩ = some (.int .i64 i) := D1.out.cell 0
    have d1 : v1.cell? ⟨w.heap.size, 1, none⟩ = some (.int .i64 st) := D1.out.cell 1
    have d2 : v1.cell? ⟨w.heap.size, 2, none⟩ = some (.int .i64 pr) := D1.out.cell 2
    have d3 : v1.cell? ⟨w.heap.size, 3, none⟩ = some (.int .i64 q) := D1.out.cell 3
    have d4 : v1.cell? ⟨w.heap.size, 4, none⟩ = some (.bool b) := D1.out.cell 4
    have e1 := World.new_ne v1 _ d0
    have hdn := Lib.hid (show ((-1 : Int) == i) = false by simp; omega)
    go_wp2
    go_region_held3 (fun w' => w'.cell? ⟨w.heap.size, 0, none⟩ = some (.int .i64 i) ∧ w'.cell? ⟨w.heap.size, 1, none⟩ = some (.int .i64 st) ∧ w'.cell? ⟨w.heap.size, 2, none⟩ = some (.int .i64 pr) ∧ w'.cell? ⟨w.heap.size, 3, none⟩ = some (.int .i64 q) ∧ w'.cell? ⟨w.heap.size, 4, none⟩ = some (.bool b)) (go_keep) (first | (go_at_call 13; refine (fresh_any _).mono ?_; rintro e v2 ⟨rfl, g2⟩; have D2 := Lib.hid (D1.out.grown (gb_trans (by repeat (first | exact gb_refl _ _ | refine gb_drewN ?_ _ | refine gb_drew ?_ | refine gb_alloc ?_ _)) g2.out) (by simp)); have y0 : v2.cell? ⟨w.heap.size, 0, none⟩ = some (.int .i64 i) := D2.out.cell 0; have y1 : v2.cell? ⟨w.heap.size, 1, none⟩ = some (.int .i64 st) := D2.out.cell 1; have y2 : v2.cell? ⟨w.heap.size, 2, none⟩ = some (.int .i64 pr) := D2.out.cell 2; have y3 : v2.cell? ⟨w.heap.size, 3, none⟩ = some (.int .i64 q) := D2.out.cell 3; have y4 : v2.cell? ⟨w.heap.size, 4, none⟩ = some (.bool b) := D2.out.cell 4; have e2 := World.new_ne v2 _ y0; (first | (have N2 := Lib.hid (Blk.grown (t := 23) (b := v1.heap.size) (cs := #[.int .i64 0, .int .i64 0, .int .i64 0, .int .i64 0, .int .i64 0]) (by first | exact Blk.made _ _ _ | exact (Blk.made _ _ _).drew | exact (Blk.made _ _ _).drewN _) g2.out (by simp)); have nc0 := N2.out.cell 0; have nf0 := N2.out.free 0; have nc1 := N2.out.cell 1; have nf1 := N2.out.free 1; have nc2 := N2.out.cell 2; have nf2 := N2.out.free 2; have nc3 := N2.out.cell 3; have nf3 := N2.out.free 3; have nc4 := N2.out.cell 4; have nf4 := N2.out.free 4) | skip)) | (go_at_call 9; refine (met_other (-1) 0 0 0 0 i st pr q b hdn.out _).mono ?_; rintro e v3 ⟨rfl, g3⟩; have D3 := Lib.hid (D2.out.grown (gb_trans (by repeat (first | exact gb_refl _ _ | refine gb_drewN ?_ _ | refine gb_drew ?_ | refine gb_alloc ?_ _)) g3.out) (by simp)); have z0 : v3.cell? ⟨w.heap.size, 0, none⟩ = some (.int .i64 i) := D3.out.cell 0; have z1 : v3.cell? ⟨w.heap.size, 1, none⟩ = some (.int .i64 st) := D3.out.cell 1; have z2 : v3.cell? ⟨w.heap.size, 2, none⟩ = some (.int .i64 pr) := D3.out.cell 2; have z3 : v3.cell? ⟨w.heap.size, 3, none⟩ = some (.int .i64 q) := D3.out.cell 3; have z4 : v3.cell? ⟨w.heap.size, 4, none⟩ = some (.bool b) := D3.out.cell 4; have e3 := World.new_ne v3 _ z0; (first | (have N3 := Lib.hid (Blk.grown (t := 23) (b := v1.heap.size) (cs := #[.int .i64 0, .int .i64 0, .int .i64 0, .int .i64 0, .int .i64 0]) (by first | exact N2.out | exact N2.out.drew | exact N2.out.drewN _) g3.out (by simp)); have mc0 := N3.out.cell 0; have mf0 := N3.out.free 0; have mc1 := N3.out.cell 1; have mf1 := N3.out.free 1; have mc2 := N3.out.cell 2; have mf2 := N3.out.free 2; have mc3 := N3.out.cell 3; have mf3 := N3.out.free 3; have mc4 := N3.out.cell 4; have mf4 := N3.out.free 4) | (have N3 := Lib.hid (Blk.grown (t := 23) (b := v2.heap.size) (cs := #[.int .i64 0, .int .i64 0, .int .i64 0, .int .i64 0, .int .i64 0]) (by first | exact Blk.made _ _ _ | exact (Blk.made _ _ _).drew | exact (Blk.made _ _ _).drewN _) g3.out (by simp)); have mc0 := N3.out.cell 0; have mf0 := N3.out.free 0; have mc1 := N3.out.cell 1; have mf1 := N3.out.free 1; have mc2 := N3.out.cell 2; have mf2 := N3.out.free 2; have mc3 := N3.out.cell 3; have mf3 := N3.out.free 3; have mc4 := N3.out.cell 4; have mf4 := N3.out.free 4) | skip)))
    · have X : Hid (Blk 23 (v3.alloc (.cells #[.int .i64 i, .int .i64 1, .int .i64 0, .int .i64 q, .int .i64 0] 23)) v3.heap.size #[.int .i64 i, .int .i64 1, .int .i64 0, .int .i64 q, .int .i64 0]) := Blk.made v3 23 _
      have D : Hid (Blk 25 (v3.alloc (.cells #[.int .i64 i, .int .i64 1, .int .i64 0, .int .i64 q, .int .i64 0] 23)) w.heap.size #[.int .i64 i, .int .i64 st, .int .i64 pr, .int .i64 q, .bool b]) := D3.out.alloc _
      have B : Hid (w.grownBy (v3.alloc (.cells #[.int .i64 i, .int .i64 1, .int .i64 0, .int .i64 q, .int .i64 0] 23)) none) := gb_alloc (gb_trans (gb_trans B1.out (gb_trans (by repeat (first | exact gb_refl _ _ | refine gb_drewN ?_ _ | refine gb_drew ?_ | refine gb_alloc ?_ _)) g2.out)) (gb_trans (by repeat (first | exact gb_refl _ _ | refine gb_drewN ?_ _ | refine gb_drew ?_ | refine gb_alloc ?_ _)) g3.out)) _
      have hsb : Hid (w.heap.size < v3.heap.size) := D3.out.lt
      clear d0 d1 d2 d3 d4 D1 B1 hdn e1 D2 D3 g2 g3
      generalize v3.alloc (.cells #[.int .i64 i, .int .i64 1, .int .i64 0, .int .i64 q, .int .i64 0] 23) = wa at *
      generalize v3.heap.size = sb at *
      go_wp2
      go_loopw [8] (fun iv wr => Rel w sb i st pr q b m iv wr) (fun iv _ => (m + 4 - intOf iv).toNat)
      case atStart => exact ⟨0, by omega, by omega, rfl, X.out, D.out, B.out⟩
      case round =>
        obtain ⟨k, k0, k1, rfl, X0, D0, B0⟩ := hrel
        have X1 := Lib.hid X0
        have D1 := Lib.hid D0
        have B1 := Lib.hid B0
        clear X0 D0 B0 X D B
        have hlt : w.heap.size < wr.heap.size := D1.out.lt
        by_cases hk : k + 1 ≤ m + 3
        · have x0 : wr.cell? ⟨sb, 0, none⟩ = some (.int .i64 i) := X1.out.cell 0
          have x1 : wr.cell? ⟨sb, 1, none⟩ = some (.int .i64 1) := X1.out.cell 1
          have x2 : wr.cell? ⟨sb, 2, none⟩ = some (.int .i64 0) := X1.out.cell 2
          have x3 : wr.cell? ⟨sb, 3, none⟩ = some (.int .i64 q) := X1.out.cell 3
          have x4 : wr.cell? ⟨sb, 4, none⟩ = some (.int .i64 k) := X1.out.cell 4
          have d0 : wr.cell? ⟨w.heap.size, 0, none⟩ = some (.int .i64 i) := D1.out.cell 0
          have d3 : wr.cell? ⟨w.heap.size, 3, none⟩ = some (.int .i64 q) := D1.out.cell 3
          go_wp2_with fail
          refine (look_one i 1 0 q k m k0 (by omega) _).mono ?_
          rintro e u1 ⟨rfl, g1⟩
          clear x0 x1 x2 x3 x4 d0 d3
          have X2 := Lib.hid ((X1.out.grown g1.out (by simp)).alloc (.cells #[.int .i64 i, .int .i64 1, .int .i64 0, .int .i64 q, .int .i64 (k + 1)] 23))
          have D2 := Lib.hid ((D1.out.grown g1.out (by simp)).alloc (.cells #[.int .i64 i, .int .i64 1, .int .i64 0, .int .i64 q, .int .i64 (k + 1)] 23))
          have Y2 := Lib.hid (Blk.made u1 23 #[.int .i64 i, .int .i64 1, .int .i64 0, .int .i64 q, .int .i64 (k + 1)])
          have B2 := Lib.hid (gb_alloc (gb_trans B1.out g1.out) (.cells #[.int .i64 i, .int .i64 1, .int .i64 0, .int .i64 q, .int .i64 (k + 1)] 23))
          have ne := Lib.hid (show sb ≠ u1.heap.size from Nat.ne_of_lt (Nat.lt_of_lt_of_le X1.out.lt g1.out.size))
          clear g1
          have y0 : (u1.alloc (.cells #[.int .i64 i, .int .i64 1, .int .i64 0, .int .i64 q, .int .i64 (k + 1)] 23)).cell? ⟨u1.heap.size, 0, none⟩ = some (.int .i64 i) := Y2.out.cell 0
          have y1 : (u1.alloc (.cells #[.int .i64 i, .int .i64 1, .int .i64 0, .int .i64 q, .int .i64 (k + 1)] 23)).cell? ⟨u1.heap.size, 1, none⟩ = some (.int .i64 1) := Y2.out.cell 1
          have y2 : (u1.alloc (.cells #[.int .i64 i, .int .i64 1, .int .i64 0, .int .i64 q, .int .i64 (k + 1)] 23)).cell? ⟨u1.heap.size, 2, none⟩ = some (.int .i64 0) := Y2.out.cell 2
          have y3 : (u1.alloc (.cells #[.int .i64 i, .int .i64 1, .int .i64 0, .int .i64 q, .int .i64 (k + 1)] 23)).cell? ⟨u1.heap.size, 3, none⟩ = some (.int .i64 q) := Y2.out.cell 3
          have y4 : (u1.alloc (.cells #[.int .i64 i, .int .i64 1, .int .i64 0, .int .i64 q, .int .i64 (k + 1)] 23)).cell? ⟨u1.heap.size, 4, none⟩ = some (.int .i64 (k + 1)) := Y2.out.cell 4
          have d0 : (u1.alloc (.cells #[.int .i64 i, .int .i64 1, .int .i64 0, .int .i64 q, .int .i64 (k + 1)] 23)).cell? ⟨w.heap.size, 0, none⟩ = some (.int .i64 i) := D2.out.cell 0
          have c0 := X2.out.cell 0
          have f0 := X2.out.free 0
          have c1 := X2.out.cell 1
          have f1 := X2.out.free 1
          have c2 := X2.out.cell 2
          have f2 := X2.out.free 2
          have c3 := X2.out.cell 3
          have f3 := X2.out.free 3
          have c4 := X2.out.cell 4
          have f4 := X2.out.free 4
          go_wp2
          go_roundw
          case rel => exact ⟨k + 1, by omega, by omega, by go_num, ((((X2.out.set 0 _).set 1 _).set 2 _).set 3 _).set 4 _, ((((D2.out.other (p := ⟨sb, 0, none⟩) (by have := hsb.out; show w.heap.size ≠ sb; omega) _).other (p := ⟨sb, 1, none⟩) (by have := hsb.out; show w.heap.size ≠ sb; omega) _).other (p := ⟨sb, 2, none⟩) (by have := hsb.out; show w.heap.size ≠ sb; omega) _).other (p := ⟨sb, 3, none⟩) (by have := hsb.out; show w.heap.size ≠ sb; omega) _).other (p := ⟨sb, 4, none⟩) (by have := hsb.out; show w.heap.size ≠ sb; omega) _, gb_setNew (gb_setNew (gb_setNew (gb_setNew (gb_setNew (B2.out) (by have := hsb.out; show w.heap.size ≤ sb; omega) _) (by have := hsb.out; show w.heap.size ≤ sb; omega) _) (by have := hsb.out; show w.heap.size ≤ sb; omega) _) (by have := hsb.out; show w.heap.size ≤ sb; omega) _) (by have := hsb.out; show w.heap.size ≤ sb; omega) _⟩
          case measure => simp [intOf]; omega
        · have x0 : wr.cell? ⟨sb, 0, none⟩ = some (.int .i64 i) := X1.out.cell 0
          have x1 : wr.cell? ⟨sb, 1, none⟩ = some (.int .i64 1) := X1.out.cell 1
          have x2 : wr.cell? ⟨sb, 2, none⟩ = some (.int .i64 0) := X1.out.cell 2
          have x3 : wr.cell? ⟨sb, 3, none⟩ = some (.int .i64 q) := X1.out.cell 3
          have x4 : wr.cell? ⟨sb, 4, none⟩ = some (.int .i64 k) := X1.out.cell 4
          have d3 : wr.cell? ⟨w.heap.size, 3, none⟩ = some (.int .i64 q) := D1.out.cell 3
          by_cases ho : o = q
          · subst ho
            go_wp2
            go_ret
            exact ⟨rfl, gb_below B1.out⟩
          · have n1 : (o == q) = false := by simpa using ho
            have n2 : (q == o) = false := by simpa using fun h => ho h.symm
            clear ho
            go_wp2_with fail
            refine (look_new i 1 0 q k o m n2 l _).mono ?_
            rintro e u1 ⟨rfl, g1⟩
            clear x0 x1 x2 x3 x4 d3
            have B2 := Lib.hid (gb_alloc (gb_trans B1.out g1.out) (.cells #[.int .i64 i, .int .i64 1, .int .i64 0, .int .i64 o, .int .i64 0] 23))
            have Y2 := Lib.hid (Blk.made u1 23 #[.int .i64 i, .int .i64 1, .int .i64 0, .int .i64 o, .int .i64 0])
            have y3 : (u1.alloc (.cells #[.int .i64 i, .int .i64 1, .int .i64 0, .int .i64 o, .int .i64 0] 23)).cell? ⟨u1.heap.size, 3, none⟩ = some (.int .i64 o) := Y2.out.cell 3
            have y4 : (u1.alloc (.cells #[.int .i64 i, .int .i64 1, .int .i64 0, .int .i64 o, .int .i64 0] 23)).cell? ⟨u1.heap.size, 4, none⟩ = some (.int .i64 0) := Y2.out.cell 4
            go_wp2
            go_ret
            exact ⟨rfl, gb_below B2.out⟩
    · have X : Hid (Blk 23 (((((v3.setCell ⟨v2.heap.size, 0, none⟩ (.int .i64 i)).setCell ⟨v2.heap.size, 1, none⟩ (.int .i64 1)).setCell ⟨v2.heap.size, 2, none⟩ (.int .i64 0)).setCell ⟨v2.heap.size, 3, none⟩ (.int .i64 q)).setCell ⟨v2.heap.size, 4, none⟩ (.int .i64 0)) v2.heap.size #[.int .i64 i, .int .i64 1, .int .i64 0, .int .i64 q, .int .i64 0]) := ((((N3.out.set 0 _).set 1 _).set 2 _).set 3 _).set 4 _
      have D : Hid (Blk 25 (((((v3.setCell ⟨v2.heap.size, 0, none⟩ (.int .i64 i)).setCell ⟨v2.heap.size, 1, none⟩ (.int .i64 1)).setCell ⟨v2.heap.size, 2, none⟩ (.int .i64 0)).setCell ⟨v2.heap.size, 3, none⟩ (.int .i64 q)).setCell ⟨v2.heap.size, 4, none⟩ (.int .i64 0)) w.heap.size #[.int .i64 i, .int .i64 st, .int .i64 pr, .int .i64 q, .bool b]) := ((((D3.out.other (p := ⟨v2.heap.size, 0, none⟩) (by have := D2.out.lt; show w.heap.size ≠ v2.heap.size; omega) _).other (p := ⟨v2.heap.size, 1, none⟩) (by have := D2.out.lt; show w.heap.size ≠ v2.heap.size; omega) _).other (p := ⟨v2.heap.size, 2, none⟩) (by have := D2.out.lt; show w.heap.size ≠ v2.heap.size; omega) _).other (p := ⟨v2.heap.size, 3, none⟩) (by have := D2.out.lt; show w.heap.size ≠ v2.heap.size; omega) _).other (p := ⟨v2.heap.size, 4, none⟩) (by have := D2.out.lt; show w.heap.size ≠ v2.heap.size; omega) _
      have B : Hid (w.grownBy (((((v3.setCell ⟨v2.heap.size, 0, none⟩ (.int .i64 i)).setCell ⟨v2.heap.size, 1, none⟩ (.int .i64 1)).setCell ⟨v2.heap.size, 2, none⟩ (.int .i64 0)).setCell ⟨v2.heap.size, 3, none⟩ (.int .i64 q)).setCell ⟨v2.heap.size, 4, none⟩ (.int .i64 0)) none) := gb_setNew (gb_setNew (gb_setNew (gb_setNew (gb_setNew (gb_trans (gb_trans B1.out (gb_trans (by repeat (first | exact gb_refl _ _ | refine gb_drewN ?_ _ | refine gb_drew ?_ | refine gb_alloc ?_ _)) g2.out)) (gb_trans (by repeat (first | exact gb_refl _ _ | refine gb_drewN ?_ _ | refine gb_drew ?_ | refine gb_alloc ?_ _)) g3.out)) (by have := D2.out.lt; show w.heap.size ≤ v2.heap.size; omega) _) (by have := D2.out.lt; show w.heap.size ≤ v2.heap.size; omega) _) (by have := D2.out.lt; show w.heap.size ≤ v2.heap.size; omega) _) (by have := D2.out.lt; show w.heap.size ≤ v2.heap.size; omega) _) (by have := D2.out.lt; show w.heap.size ≤ v2.heap.size; omega) _
      have hsb : Hid (w.heap.size < v2.heap.size) := D2.out.lt
      clear d0 d1 d2 d3 d4 D1 B1 hdn e1 D2 D3 g2 g3
      generalize ((((v3.setCell ⟨v2.heap.size, 0, none⟩ (.int .i64 i)).setCell ⟨v2.heap.size, 1, none⟩ (.int .i64 1)).setCell ⟨v2.heap.size, 2, none⟩ (.int .i64 0)).setCell ⟨v2.heap.size, 3, none⟩ (.int .i64 q)).setCell ⟨v2.heap.size, 4, none⟩ (.int .i64 0) = wa at *
      generalize v2.heap.size = sb at *
      go_wp2
      go_loopw [8] (fun iv wr => Rel w sb i st pr q b m iv wr) (fun iv _ => (m + 4 - intOf iv).toNat)
      case atStart => exact ⟨0, by omega, by omega, rfl, X.out, D.out, B.out⟩
      case round =>
        obtain ⟨k, k0, k1, rfl, X0, D0, B0⟩ := hrel
        have X1 := Lib.hid X0
        have D1 := Lib.hid D0
        have B1 := Lib.hid B0
        clear X0 D0 B0 X D B
        have hlt : w.heap.size < wr.heap.size := D1.out.lt
        by_cases hk : k + 1 ≤ m + 3
        · have x0 : wr.cell? ⟨sb, 0, none⟩ = some (.int .i64 i) := X1.out.cell 0
          have x1 : wr.cell? ⟨sb, 1, none⟩ = some (.int .i64 1) := X1.out.cell 1
          have x2 : wr.cell? ⟨sb, 2, none⟩ = some (.int .i64 0) := X1.out.cell 2
          have x3 : wr.cell? ⟨sb, 3, none⟩ = some (.int .i64 q) := X1.out.cell 3
          have x4 : wr.cell? ⟨sb, 4, none⟩ = some (.int .i64 k) := X1.out.cell 4
          have d0 : wr.cell? ⟨w.heap.size, 0, none⟩ = some (.int .i64 i) := D1.out.cell 0
          have d3 : wr.cell? ⟨w.heap.size, 3, none⟩ = some (.int .i64 q) := D1.out.cell 3
          go_wp2_with fail
          refine (look_one i 1 0 q k m k0 (by omega) _).mono ?_
          rintro e u1 ⟨rfl, g1⟩
          clear x0 x1 x2 x3 x4 d0 d3
          have X2 := Lib.hid ((X1.out.grown g1.out (by simp)).alloc (.cells #[.int .i64 i, .int .i64 1, .int .i64 0, .int .i64 q, .int .i64 (k + 1)] 23))
          have D2 := Lib.hid ((D1.out.grown g1.out (by simp)).alloc (.cells #[.int .i64 i, .int .i64 1, .int .i64 0, .int .i64 q, .int .i64 (k + 1)] 23))
          have Y2 := Lib.hid (Blk.made u1 23 #[.int .i64 i, .int .i64 1, .int .i64 0, .int .i64 q, .int .i64 (k + 1)])
          have B2 := Lib.hid (gb_alloc (gb_trans B1.out g1.out) (.cells #[.int .i64 i, .int .i64 1, .int .i64 0, .int .i64 q, .int .i64 (k + 1)] 23))
          have ne := Lib.hid (show sb ≠ u1.heap.size from Nat.ne_of_lt (Nat.lt_of_lt_of_le X1.out.lt g1.out.size))
          clear g1
          have y0 : (u1.alloc (.cells #[.int .i64 i, .int .i64 1, .int .i64 0, .int .i64 q, .int .i64 (k + 1)] 23)).cell? ⟨u1.heap.size, 0, none⟩ = some (.int .i64 i) := Y2.out.cell 0
          have y1 : (u1.alloc (.cells #[.int .i64 i, .int .i64 1, .int .i64 0, .int .i64 q, .int .i64 (k + 1)] 23)).cell? ⟨u1.heap.size, 1, none⟩ = some (.int .i64 1) := Y2.out.cell 1
          have y2 : (u1.alloc (.cells #[.int .i64 i, .int .i64 1, .int .i64 0, .int .i64 q, .int .i64 (k + 1)] 23)).cell? ⟨u1.heap.size, 2, none⟩ = some (.int .i64 0) := Y2.out.cell 2
          have y3 : (u1.alloc (.cells #[.int .i64 i, .int .i64 1, .int .i64 0, .int .i64 q, .int .i64 (k + 1)] 23)).cell? ⟨u1.heap.size, 3, none⟩ = some (.int .i64 q) := Y2.out.cell 3
          have y4 : (u1.alloc (.cells #[.int .i64 i, .int .i64 1, .int .i64 0, .int .i64 q, .int .i64 (k + 1)] 23)).cell? ⟨u1.heap.size, 4, none⟩ = some (.int .i64 (k + 1)) := Y2.out.cell 4
          have d0 : (u1.alloc (.cells #[.int .i64 i, .int .i64 1, .int .i64 0, .int .i64 q, .int .i64 (k + 1)] 23)).cell? ⟨w.heap.size, 0, none⟩ = some (.int .i64 i) := D2.out.cell 0
          have c0 := X2.out.cell 0
          have f0 := X2.out.free 0
          have c1 := X2.out.cell 1
          have f1 := X2.out.free 1
          have c2 := X2.out.cell 2
          have f2 := X2.out.free 2
          have c3 := X2.out.cell 3
          have f3 := X2.out.free 3
          have c4 := X2.out.cell 4
          have f4 := X2.out.free 4
          go_wp2
          go_roundw
          case rel => exact ⟨k + 1, by omega, by omega, by go_num, ((((X2.out.set 0 _).set 1 _).set 2 _).set 3 _).set 4 _, ((((D2.out.other (p := ⟨sb, 0, none⟩) (by have := hsb.out; show w.heap.size ≠ sb; omega) _).other (p := ⟨sb, 1, none⟩) (by have := hsb.out; show w.heap.size ≠ sb; omega) _).other (p := ⟨sb, 2, none⟩) (by have := hsb.out; show w.heap.size ≠ sb; omega) _).other (p := ⟨sb, 3, none⟩) (by have := hsb.out; show w.heap.size ≠ sb; omega) _).other (p := ⟨sb, 4, none⟩) (by have := hsb.out; show w.heap.size ≠ sb; omega) _, gb_setNew (gb_setNew (gb_setNew (gb_setNew (gb_setNew (B2.out) (by have := hsb.out; show w.heap.size ≤ sb; omega) _) (by have := hsb.out; show w.heap.size ≤ sb; omega) _) (by have := hsb.out; show w.heap.size ≤ sb; omega) _) (by have := hsb.out; show w.heap.size ≤ sb; omega) _) (by have := hsb.out; show w.heap.size ≤ sb; omega) _⟩
          case measure => simp [intOf]; omega
        · have x0 : wr.cell? ⟨sb, 0, none⟩ = some (.int .i64 i) := X1.out.cell 0
          have x1 : wr.cell? ⟨sb, 1, none⟩ = some (.int .i64 1) := X1.out.cell 1
          have x2 : wr.cell? ⟨sb, 2, none⟩ = some (.int .i64 0) := X1.out.cell 2
          have x3 : wr.cell? ⟨sb, 3, none⟩ = some (.int .i64 q) := X1.out.cell 3
          have x4 : wr.cell? ⟨sb, 4, none⟩ = some (.int .i64 k) := X1.out.cell 4
          have d3 : wr.cell? ⟨w.heap.size, 3, none⟩ = some (.int .i64 q) := D1.out.cell 3
          by_cases ho : o = q
          · subst ho
            go_wp2
            go_ret
            exact ⟨rfl, gb_below B1.out⟩
          · have n1 : (o == q) = false := by simpa using ho
            have n2 : (q == o) = false := by simpa using fun h => ho h.symm
            clear ho
            go_wp2_with fail
            refine (look_new i 1 0 q k o m n2 l _).mono ?_
            rintro e u1 ⟨rfl, g1⟩
            clear x0 x1 x2 x3 x4 d3
            have B2 := Lib.hid (gb_alloc (gb_trans B1.out g1.out) (.cells #[.int .i64 i, .int .i64 1, .int .i64 0, .int .i64 o, .int .i64 0] 23))
            have Y2 := Lib.hid (Blk.made u1 23 #[.int .i64 i, .int .i64 1, .int .i64 0, .int .i64 o, .int .i64 0])
            have y3 : (u1.alloc (.cells #[.int .i64 i, .int .i64 1, .int .i64 0, .int .i64 o, .int .i64 0] 23)).cell? ⟨u1.heap.size, 3, none⟩ = some (.int .i64 o) := Y2.out.cell 3
            have y4 : (u1.alloc (.cells #[.int .i64 i, .int .i64 1, .int .i64 0, .int .i64 o, .int .i64 0] 23)).cell? ⟨u1.heap.size, 4, none⟩ = some (.int .i64 0) := Y2.out.cell 4
            go_wp2
            go_ret
            exact ⟨rfl, gb_below B2.out⟩
    · have X : Hid (Blk 23 (((((v3.setCell ⟨v1.heap.size, 0, none⟩ (.int .i64 i)).setCell ⟨v1.heap.size, 1, none⟩ (.int .i64 1)).setCell ⟨v1.heap.size, 2, none⟩ (.int .i64 0)).setCell ⟨v1.heap.size, 3, none⟩ (.int .i64 q)).setCell ⟨v1.heap.size, 4, none⟩ (.int .i64 0)) v1.heap.size #[.int .i64 i, .int .i64 1, .int .i64 0, .int .i64 q, .int .i64 0]) := ((((N3.out.set 0 _).set 1 _).set 2 _).set 3 _).set 4 _
      have D : Hid (Blk 25 (((((v3.setCell ⟨v1.heap.size, 0, none⟩ (.int .i64 i)).setCell ⟨v1.heap.size, 1, none⟩ (.int .i64 1)).setCell ⟨v1.heap.size, 2, none⟩ (.int .i64 0)).setCell ⟨v1.heap.size, 3, none⟩ (.int .i64 q)).setCell ⟨v1.heap.size, 4, none⟩ (.int .i64 0)) w.heap.size #[.int .i64 i, .int .i64 st, .int .i64 pr, .int .i64 q, .bool b]) := ((((D3.out.other (p := ⟨v1.heap.size, 0, none⟩) (by have := D1.out.lt; show w.heap.size ≠ v1.heap.size; omega) _).other (p := ⟨v1.heap.size, 1, none⟩) (by have := D1.out.lt; show w.heap.size ≠ v1.heap.size; omega) _).other (p := ⟨v1.heap.size, 2, none⟩) (by have := D1.out.lt; show w.heap.size ≠ v1.heap.size; omega) _).other (p := ⟨v1.heap.size, 3, none⟩) (by have := D1.out.lt; show w.heap.size ≠ v1.heap.size; omega) _).other (p := ⟨v1.heap.size, 4, none⟩) (by have := D1.out.lt; show w.heap.size ≠ v1.heap.size; omega) _
      have B : Hid (w.grownBy (((((v3.setCell ⟨v1.heap.size, 0, none⟩ (.int .i64 i)).setCell ⟨v1.heap.size, 1, none⟩ (.int .i64 1)).setCell ⟨v1.heap.size, 2, none⟩ (.int .i64 0)).setCell ⟨v1.heap.size, 3, none⟩ (.int .i64 q)).setCell ⟨v1.heap.size, 4, none⟩ (.int .i64 0)) none) := gb_setNew (gb_setNew (gb_setNew (gb_setNew (gb_setNew (gb_trans (gb_trans B1.out (gb_trans (by repeat (first | exact gb_refl _ _ | refine gb_drewN ?_ _ | refine gb_drew ?_ | refine gb_alloc ?_ _)) g2.out)) (gb_trans (by repeat (first | exact gb_refl _ _ | refine gb_drewN ?_ _ | refine gb_drew ?_ | refine gb_alloc ?_ _)) g3.out)) (by have := D1.out.lt; show w.heap.size ≤ v1.heap.size; omega) _) (by have := D1.out.lt; show w.heap.size ≤ v1.heap.size; omega) _) (by have := D1.out.lt; show w.heap.size ≤ v1.heap.size; omega) _) (by have := D1.out.lt; show w.heap.size ≤ v1.heap.size; omega) _) (by have := D1.out.lt; show w.heap.size ≤ v1.heap.size; omega) _
      have hsb : Hid (w.heap.size < v1.heap.size) := D1.out.lt
      clear d0 d1 d2 d3 d4 D1 B1 hdn e1 D2 D3 g2 g3
      generalize ((((v3.setCell ⟨v1.heap.size, 0, none⟩ (.int .i64 i)).setCell ⟨v1.heap.size, 1, none⟩ (.int .i64 1)).setCell ⟨v1.heap.size, 2, none⟩ (.int .i64 0)).setCell ⟨v1.heap.size, 3, none⟩ (.int .i64 q)).setCell ⟨v1.heap.size, 4, none⟩ (.int .i64 0) = wa at *
      generalize v1.heap.size = sb at *
      go_wp2
      go_loopw [8] (fun iv wr => Rel w sb i st pr q b m iv wr) (fun iv _ => (m + 4 - intOf iv).toNat)
      case atStart => exact ⟨0, by omega, by omega, rfl, X.out, D.out, B.out⟩
      case round =>
        obtain ⟨k, k0, k1, rfl, X0, D0, B0⟩ := hrel
        have X1 := Lib.hid X0
        have D1 := Lib.hid D0
        have B1 := Lib.hid B0
        clear X0 D0 B0 X D B
        have hlt : w.heap.size < wr.heap.size := D1.out.lt
        by_cases hk : k + 1 ≤ m + 3
        · have x0 : wr.cell? ⟨sb, 0, none⟩ = some (.int .i64 i) := X1.out.cell 0
          have x1 : wr.cell? ⟨sb, 1, none⟩ = some (.int .i64 1) := X1.out.cell 1
          have x2 : wr.cell? ⟨sb, 2, none⟩ = some (.int .i64 0) := X1.out.cell 2
          have x3 : wr.cell? ⟨sb, 3, none⟩ = some (.int .i64 q) := X1.out.cell 3
          have x4 : wr.cell? ⟨sb, 4, none⟩ = some (.int .i64 k) := X1.out.cell 4
          have d0 : wr.cell? ⟨w.heap.size, 0, none⟩ = some (.int .i64 i) := D1.out.cell 0
          have d3 : wr.cell? ⟨w.heap.size, 3, none⟩ = some (.int .i64 q) := D1.out.cell 3
          go_wp2_with fail
          refine (look_one i 1 0 q k m k0 (by omega) _).mono ?_
          rintro e u1 ⟨rfl, g1⟩
          clear x0 x1 x2 x3 x4 d0 d3
          have X2 := Lib.hid ((X1.out.grown g1.out (by simp)).alloc (.cells #[.int .i64 i, .int .i64 1, .int .i64 0, .int .i64 q, .int .i64 (k + 1)] 23))
          have D2 := Lib.hid ((D1.out.grown g1.out (by simp)).alloc (.cells #[.int .i64 i, .int .i64 1, .int .i64 0, .int .i64 q, .int .i64 (k + 1)] 23))
          have Y2 := Lib.hid (Blk.made u1 23 #[.int .i64 i, .int .i64 1, .int .i64 0, .int .i64 q, .int .i64 (k + 1)])
          have B2 := Lib.hid (gb_alloc (gb_trans B1.out g1.out) (.cells #[.int .i64 i, .int .i64 1, .int .i64 0, .int .i64 q, .int .i64 (k + 1)] 23))
          have ne := Lib.hid (show sb ≠ u1.heap.size from Nat.ne_of_lt (Nat.lt_of_lt_of_le X1.out.lt g1.out.size))
          clear g1
          have y0 : (u1.alloc (.cells #[.int .i64 i, .int .i64 1, .int .i64 0, .int .i64 q, .int .i64 (k + 1)] 23)).cell? ⟨u1.heap.size, 0, none⟩ = some (.int .i64 i) := Y2.out.cell 0
          have y1 : (u1.alloc (.cells #[.int .i64 i, .int .i64 1, .int .i64 0, .int .i64 q, .int .i64 (k + 1)] 23)).cell? ⟨u1.heap.size, 1, none⟩ = some (.int .i64 1) := Y2.out.cell 1
          have y2 : (u1.alloc (.cells #[.int .i64 i, .int .i64 1, .int .i64 0, .int .i64 q, .int .i64 (k + 1)] 23)).cell? ⟨u1.heap.size, 2, none⟩ = some (.int .i64 0) := Y2.out.cell 2
          have y3 : (u1.alloc (.cells #[.int .i64 i, .int .i64 1, .int .i64 0, .int .i64 q, .int .i64 (k + 1)] 23)).cell? ⟨u1.heap.size, 3, none⟩ = some (.int .i64 q) := Y2.out.cell 3
          have y4 : (u1.alloc (.cells #[.int .i64 i, .int .i64 1, .int .i64 0, .int .i64 q, .int .i64 (k + 1)] 23)).cell? ⟨u1.heap.size, 4, none⟩ = some (.int .i64 (k + 1)) := Y2.out.cell 4
          have d0 : (u1.alloc (.cells #[.int .i64 i, .int .i64 1, .int .i64 0, .int .i64 q, .int .i64 (k + 1)] 23)).cell? ⟨w.heap.size, 0, none⟩ = some (.int .i64 i) := D2.out.cell 0
          have c0 := X2.out.cell 0
          have f0 := X2.out.free 0
          have c1 := X2.out.cell 1
          have f1 := X2.out.free 1
          have c2 := X2.out.cell 2
          have f2 := X2.out.free 2
          have c3 := X2.out.cell 3
          have f3 := X2.out.free 3
          have c4 := X2.out.cell 4
          have f4 := X2.out.free 4
          go_wp2
          go_roundw
          case rel => exact ⟨k + 1, by omega, by omega, by go_num, ((((X2.out.set 0 _).set 1 _).set 2 _).set 3 _).set 4 _, ((((D2.out.other (p := ⟨sb, 0, none⟩) (by have := hsb.out; show w.heap.size ≠ sb; omega) _).other (p := ⟨sb, 1, none⟩) (by have := hsb.out; show w.heap.size ≠ sb; omega) _).other (p := ⟨sb, 2, none⟩) (by have := hsb.out; show w.heap.size ≠ sb; omega) _).other (p := ⟨sb, 3, none⟩) (by have := hsb.out; show w.heap.size ≠ sb; omega) _).other (p := ⟨sb, 4, none⟩) (by have := hsb.out; show w.heap.size ≠ sb; omega) _, gb_setNew (gb_setNew (gb_setNew (gb_setNew (gb_setNew (B2.out) (by have := hsb.out; show w.heap.size ≤ sb; omega) _) (by have := hsb.out; show w.heap.size ≤ sb; omega) _) (by have := hsb.out; show w.heap.size ≤ sb; omega) _) (by have := hsb.out; show w.heap.size ≤ sb; omega) _) (by have := hsb.out; show w.heap.size ≤ sb; omega) _⟩
          case measure => simp [intOf]; omega
        · have x0 : wr.cell? ⟨sb, 0, none⟩ = some (.int .i64 i) := X1.out.cell 0
          have x1 : wr.cell? ⟨sb, 1, none⟩ = some (.int .i64 1) := X1.out.cell 1
          have x2 : wr.cell? ⟨sb, 2, none⟩ = some (.int .i64 0) := X1.out.cell 2
          have x3 : wr.cell? ⟨sb, 3, none⟩ = some (.int .i64 q) := X1.out.cell 3
          have x4 : wr.cell? ⟨sb, 4, none⟩ = some (.int .i64 k) := X1.out.cell 4
          have d3 : wr.cell? ⟨w.heap.size, 3, none⟩ = some (.int .i64 q) := D1.out.cell 3
          by_cases ho : o = q
          · subst ho
            go_wp2
            go_ret
            exact ⟨rfl, gb_below B1.out⟩
          · have n1 : (o == q) = false := by simpa using ho
            have n2 : (q == o) = false := by simpa using fun h => ho h.symm
            clear ho
            go_wp2_with fail
            refine (look_new i 1 0 q k o m n2 l _).mono ?_
            rintro e u1 ⟨rfl, g1⟩
            clear x0 x1 x2 x3 x4 d3
            have B2 := Lib.hid (gb_alloc (gb_trans B1.out g1.out) (.cells #[.int .i64 i, .int .i64 1, .int .i64 0, .int .i64 o, .int .i64 0] 23))
            have Y2 := Lib.hid (Blk.made u1 23 #[.int .i64 i, .int .i64 1, .int .i64 0, .int .i64 o, .int .i64 0])
            have y3 : (u1.alloc (.cells #[.int .i64 i, .int .i64 1, .int .i64 0, .int .i64 o, .int .i64 0] 23)).cell? ⟨u1.heap.size, 3, none⟩ = some (.int .i64 o) := Y2.out.cell 3
            have y4 : (u1.alloc (.cells #[.int .i64 i, .int .i64 1, .int .i64 0, .int .i64 o, .int .i64 0] 23)).cell? ⟨u1.heap.size, 4, none⟩ = some (.int .i64 0) := Y2.out.cell 4
            go_wp2
            go_ret
            exact ⟨rfl, gb_below B2.out⟩

theorem walk (z0 : Nat → Int) (y0 : Nat → Bool) (a1 a2 : Int) (w : World) (w0 : ∀ i, i < 5 → (Lit.int .i64 (z0 i)).wf = true) (w1 : (Lit.int .u8 a1).wf = true) (w2 : (Lit.int .i64 a2).wf = true) :
    Calls Try.prog 4 #[.agg #[.int .i64 (z0 0), .int .i64 (z0 1), .int .i64 (z0 2), .int .i64 (z0 3), .bool (y0 4)], .int .u8 a1, .int .i64 a2] w fun e w' => e = .returned (.bool true) ∧ Below w.heap.size w w' := by
  have := bounds_u8 w1
  exact walk1 _ _ _ _ _ _ _ (by omega) (by omega) w

theorem own : ownKnob Try.prog.godebug = none := by kernel_rfl
theorem laidOut : laidOutB Try.prog = true := by kernel_rfl

/-! ### THE ROW's STEP, as the guide has it -/
set_option maxRecDepth 100000 in
theorem lifted (os : Os) (started : os.Started) (H : Type) (enc : TypeId × Value → H) :
    ReturnsInHanded {} Try.checked os 4 .any (Rows.choiceStandsSpec.pre6 enc Try.prog Try.f4 Rows.choiceStandsRow.domain false) (Rows.choiceStandsSpec.post enc Try.prog Try.f4 false true false false) := by
  refine returnsInHanded_of_change (C := Try.checked) own started (by kernel_rfl) Try.func4
    (ChangeSpec.witness6 (enc := enc) (C := Try.checked) false ⟨#[], #[.agg #[.int .i64 0, .int .i64 0, .int .i64 0, .int .i64 0, .bool false], .int .u8 0, .int .i64 0], []⟩ 8 (by kernel_rfl) (by kernel_rfl) (by kernel_rfl) (by kernel_rfl)) ?_
  intro W base args ds gs before hval0 hW hcnd _
  have hval : ∀ (j : Nat) t v, Try.f4.params[j]? = some t → args[j]? = some v → Value.okWide Try.prog W .any base t v := hval0
  have hW' := hW
  obtain ⟨p, q, hA0, hV, rfl, hfz, hnd⟩ := hW
  have hA : DataW.TrodAll enc Try.prog W 0 (fun _ => true) true Try.f4.params.toList args.toList ds p := hA0
  rw [Try.params4] at hA hval
  obtain ⟨v0, vs0, d0, ds0, p0, q0, hargs, rfl, rfl, h0, r0⟩ := trodAll_cons hA
  obtain ⟨v1, vs1, d1, ds1, p1, q1, rfl, rfl, rfl, h1, r1⟩ := trodAll_cons r0
  obtain ⟨v2, vs2, d2, ds2, p2, q2, rfl, rfl, rfl, h2, r2⟩ := trodAll_cons r1
  obtain ⟨rfl, rfl, rfl⟩ := trodAll_nil r2
  obtain rfl : args = #[v0, v1, v2] := by cases args; simp_all
  obtain ⟨rfl, rfl⟩ := trodVars_none hV
  obtain ⟨cs0, rfl, sz0⟩ := okWide_struct Try.underlying25 (hval 0 25 v0 rfl rfl)
  have k0 := h0
  have lt0 : ∀ x ∈ p0, x.block < W.heap.size := by obtain ⟨m, hm⟩ := k0; exact DataW.trod_lt m _ _ _ hm
  obtain ⟨z0, y0, w0, rfl⟩ : ∃ (z : Nat → Int) (y : Nat → Bool), (∀ i, i < 5 → (Lit.int .i64 (z i)).wf = true) ∧ cs0 = ⟨(List.range 5).map (mixed (fun j => j == 4) z y)⟩ := by
    obtain ⟨fuel, hf⟩ := h0
    exact isMix_of (fun j => j == 4) Try.underlying25 Try.underlying3 Try.underlying4 (by kernel_rfl) (by kernel_rfl) (sz0.trans (by kernel_rfl)) (by decide) hf
  obtain ⟨a1, rfl, rfl, rfl, w1⟩ := open_int Try.underlying5 (hval 1 5 v1 rfl rfl) h1
  obtain ⟨a2, rfl, rfl, rfl, w2⟩ := open_int Try.underlying3 (hval 2 3 v2 rfl rfl) h2
  clear hA0 hval0
  refine (walk z0 y0 a1 a2 W w0 w1 w2).mono fun e W' ⟨he, bel⟩ => ?_
  subst he
  exact ⟨_, rfl, _, _, _, [], _, [], hW', trodAll_mk1 (shut_bool Try.underlying4 _), (trodAll_cons_mk (Below.trod laidOut (by kernel_rfl) (of_decide_eq_true (by kernel_rfl)) k0 bel lt0) (trodAll_cons_mk (shut_int Try.underlying5 w1) (trodAll_cons_mk (shut_int Try.underlying3 w2) trodAll_mk0))), rfl, bel.frame _, fun h => by cases h⟩

theorem over : Rows.choiceStandsRow.holds Try.pinned (OpenSpec.ofChange Rows.choiceStandsSpec) :=
  OpenClaim.holds_of_wide 4 Try.f4 rfl rfl rfl rfl rfl rfl rfl ⟨rfl, rfl, rfl, rfl, rfl⟩ rfl rfl rfl rfl rfl (by kernel_rfl) Try.func4 (by kernel_rfl)
    (of_decide_eq_true (by kernel_rfl)) (by unfold Func.isWrapper; first | (rw [if_pos (by decide +kernel)]; kernel_rfl) | (rw [if_neg (by decide +kernel)]; exact ⟨rfl, rfl⟩))
    (fun os started H enc _ => lifted os started H enc)

theorem proved : Rows.ChoiceStandsSaid := over
#print axioms proved
end Go.Proofs.Ytgnnlgadbkmfeaa.choiceStands
