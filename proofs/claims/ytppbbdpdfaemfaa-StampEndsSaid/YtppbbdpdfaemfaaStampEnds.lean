/-
  StampEnds: the elder one aborts at once, and the younger one waits three times, gives way, if it didn't yet, and aborts then; for any two sides, any list of draws, any wait, and whether one gave way or not.
  Conditions: none (of a list of more than 20 draws, and of a foe of a number below 0, the law says nothing by itself).
-/
import Derived.Test.YtppbbdpdfaemfaaRows
import Derived.Test.YtppbbdpdfaemfaaOpen
import Derived.Test.YtppbbdpdfaemfaaOpenB
import Derived.Test.YtppbbdpdfaemfaaStamp
import Derived.Deep.CutRange
import Derived.IntWalk
namespace Go.Proofs.Ytppbbdpdfaemfaa.stampEnds
open Go.ChangeShapes Go.WideShapes Go.ChangeAt Go.RowKit Go.Proofs.Ytppbbdpdfaemfaa.base Go.Proofs.Ytppbbdpdfaemfaa.ch Go.Proofs.Ytppbbdpdfaemfaa.sta
set_option linter.unusedVariables false

/-- How often one gave way behind k draws. -/
def yAt (ms st : Int) (gave : Bool) (k : Nat) : Int := if gave = true ∨ (¬ ms < st ∧ 3 < k) then 1 else 0

/-- At the head of a round: k draws were met. -/
def Rel (w : World) (sb : Nat) (len : Nat) (gave : Bool) (mi ms mp mq : Int) (mb : Bool) (i st pr q : Int) (b : Bool) (iv : Value) (wr : World) : Prop :=
  ∃ (k : Nat) (f p : Int), k ≤ len ∧ iv = .int .i64 k ∧ (k = 0 → f = -1) ∧ (k ≠ 0 → f = i ∧ p = q) ∧
    Own w wr [(sb, 23, [.int .i64 f, .int .i64 k, .int .i64 (yAt ms st gave k), .int .i64 p, .int .i64 0]), (w.heap.size + 1, 25, [.int .i64 i, .int .i64 st, .int .i64 pr, .int .i64 q, .bool b]), (w.heap.size, 25, [.int .i64 mi, .int .i64 ms, .int .i64 mp, .int .i64 mq, .bool mb])]

/-- Behind the decision. -/
def Mid (w : World) (sb : Nat) (K N Y : Int) (k : Nat) (f y p : Int) (mi ms mp mq : Int) (mb : Bool) (i st pr q : Int) (b : Bool) (dv xv : Value) (wr : World) : Prop :=
  ∃ (db xb : Nat), dv = .pointer (some ⟨db, 0, none⟩) ∧ xv = .pointer (some ⟨xb, 0, none⟩) ∧
    Own w wr [(xb, 23, [.int .i64 i, .int .i64 ((k : Int) + 1), .int .i64 Y, .int .i64 q, .int .i64 0]), (db, 28, [.int .i64 K, .int .i64 N]), (sb, 23, [.int .i64 f, .int .i64 k, .int .i64 y, .int .i64 p, .int .i64 0]), (w.heap.size + 1, 25, [.int .i64 i, .int .i64 st, .int .i64 pr, .int .i64 q, .bool b]), (w.heap.size, 25, [.int .i64 mi, .int .i64 ms, .int .i64 mp, .int .i64 mq, .bool mb])]

theorem mT_at (f i : Int) (k : Nat) (h0 : k = 0 → f = -1) (h1 : k ≠ 0 → f = i) (hi : 0 ≤ i) (hk : k ≤ 1000) : mT f i k = (k : Int) + 1 := by
  unfold mT
  by_cases h : k = 0
  · subst h
    rw [h0 rfl, if_neg (by omega)]
    rfl
  · rw [if_pos (h1 h)]
    unfold cnt
    omega
theorem mP_at (f i p q : Int) (k : Nat) (h0 : k = 0 → f = -1) (h1 : k ≠ 0 → p = q) (hi : 0 ≤ i) : mP f i p q = q := by
  unfold mP
  by_cases h : k = 0
  · rw [h0 h, if_neg (by omega)]
  · rw [h1 h]
    split <;> rfl
theorem mL_at (f i : Int) : mL f i 0 = 0 := by unfold mL; split <;> rfl

theorem yAt_0 (ms st : Int) (gave : Bool) : yAt ms st gave 0 = if gave = true then 1 else 0 := by
  unfold yAt
  simp
theorem at_elder (ms st : Int) (gave : Bool) (k : Nat) (h : ms < st) : dK ms st ((k : Int) + 1) (yAt ms st gave k) = 1 ∧ yAt ms st gave (k + 1) = if gave = true then 1 else 0 := by
  constructor
  · unfold dK
    rw [if_pos h]
  · unfold yAt
    simp [h]
theorem at_first (ms st : Int) (gave : Bool) (k : Nat) (h : ¬ ms < st) (hk : k < 3) : dK ms st ((k : Int) + 1) (yAt ms st gave k) = 2 ∧ yAt ms st gave (k + 1) = if gave = true then 1 else 0 := by
  constructor
  · unfold dK
    rw [if_neg h, if_pos (by omega)]
  · unfold yAt
    simp [h, show ¬ 3 < k + 1 by omega]
theorem at_fourth (ms st : Int) (gave : Bool) (k : Nat) (h : ¬ ms < st) (hk : k = 3) : dK ms st ((k : Int) + 1) (yAt ms st gave k) = (if gave = true then 1 else 3) ∧ yAt ms st gave (k + 1) = 1 := by
  subst hk
  constructor
  · unfold dK yAt
    rw [if_neg h, if_neg (by omega)]
    cases gave <;> simp
  · unfold yAt
    simp [h]
theorem at_late (ms st : Int) (gave : Bool) (k : Nat) (h : ¬ ms < st) (hk : 3 < k) : dK ms st ((k : Int) + 1) (yAt ms st gave k) = 1 ∧ yAt ms st gave (k + 1) = 1 := by
  constructor
  · unfold dK
    rw [if_neg h, if_neg (by omega), if_neg (by omega)]
  · unfold yAt
    rw [if_pos (.inr ⟨h, by omega⟩)]
theorem yAt_next (ms st : Int) (gave : Bool) (k : Nat) : dY ms st ((k : Int) + 1) (yAt ms st gave k) = yAt ms st gave (k + 1) := by
  unfold dY yAt
  cases gave
  · by_cases h : ms < st
    · simp [h]
    · by_cases h3 : 3 < k
      · simp [h, h3]
        omega
      · by_cases h4 : k = 3
        · subst h4
          simp [h]
        · simp [h, h3]
          omega
  · simp

/-- One round's decision. -/
theorem decide_one (gave : Bool) (f p : Int) (k : Nat) (mi ms mp mq : Int) (mb : Bool) (i st pr q : Int) (b : Bool) (d n : Int) (h0 : k = 0 → f = -1) (h1 : k ≠ 0 → f = i ∧ p = q) (hi : 0 ≤ i) (hk : k ≤ 1000) (hn : 0 ≤ n) (hn2 : n ≤ 1000) (w : World) :
    Calls Try.prog 8 #[.agg #[], .agg #[.int .i64 f, .int .i64 k, .int .i64 (yAt ms st gave k), .int .i64 p, .int .i64 0], .agg #[.int .i64 mi, .int .i64 ms, .int .i64 mp, .int .i64 mq, .bool mb], .agg #[.int .i64 i, .int .i64 st, .int .i64 pr, .int .i64 q, .bool b], .int .i64 d, .int .i64 n] w fun e w' => e = .returned (.tuple #[.agg #[.int .i64 (dK ms st (k + 1) (yAt ms st gave k)), .int .i64 (dN ms st (k + 1) n)], .agg #[.int .i64 i, .int .i64 ((k : Int) + 1), .int .i64 (yAt ms st gave (k + 1)), .int .i64 q, .int .i64 0]]) ∧ Hid (w.grownBy w' none) := by
  have hT := mT_at f i k h0 (fun h => (h1 h).1) hi hk
  have D := decide_any f k (yAt ms st gave k) p 0 mi ms mp mq mb i st pr q b d n (by omega) hn hn2 w
  rw [hT, mP_at f i p q k h0 (fun h => (h1 h).2) hi, mL_at, yAt_next] at D
  exact D

theorem walk_out (mi ms mp mq : Int) (mb : Bool) (i st pr q : Int) (b : Bool) (a2 : Option Addr) (len2 cap2 : Nat) (a3 : Int) (gave : Bool) (w : World) (h : 20 < (len2 : Int) ∨ i < 0) :
    Calls Try.prog 4 #[.agg #[.int .i64 mi, .int .i64 ms, .int .i64 mp, .int .i64 mq, .bool mb], .agg #[.int .i64 i, .int .i64 st, .int .i64 pr, .int .i64 q, .bool b], .slice a2 len2 cap2, .int .u8 a3, .bool gave] w fun e w' => e = .returned (.bool true) ∧ Below w.heap.size w w' := by
  have h' : (20 < (len2 : Int)) ∨ (¬ 20 < (len2 : Int) ∧ i < 0) := by omega
  clear h
  rcases h' with h1 | ⟨h1, h2⟩
  all_goals
    go_enter Try.func4, Try.ntmps4
    go_wp2_with fail
    refine (alive_any _).mono ?_
    rintro e v1 ⟨rfl, g1⟩
    have M1 := Lib.hid (((Own.start w).alloc _ _).alloc _ _ |>.grown g1.out)
    simp only [size_alloc] at M1
    have m0 := M1.out.cell 1 0 rfl rfl; have m1 := M1.out.cell 1 1 rfl rfl; have m2 := M1.out.cell 1 2 rfl rfl; have m3 := M1.out.cell 1 3 rfl rfl; have m4 := M1.out.cell 1 4 rfl rfl
    have o0 := M1.out.cell 0 0 rfl rfl; have o1 := M1.out.cell 0 1 rfl rfl; have o2 := M1.out.cell 0 2 rfl rfl; have o3 := M1.out.cell 0 3 rfl rfl; have o4 := M1.out.cell 0 4 rfl rfl
    go_wp2
    go_ret
    exact ⟨rfl, M1.out.below⟩

set_option maxRecDepth 100000 in
set_option maxHeartbeats 4000000 in
theorem walk_no (mi ms mp mq : Int) (mb : Bool) (i st pr q : Int) (b : Bool) (a2 : Option Addr) (len2 cap2 : Nat) (z2 : Nat → Int) (a3 : Int) (w : World) (w2 : IsRow .i64 w a2 len2 cap2 z2) (l3 : 0 ≤ a3) (u3 : a3 ≤ 255) (h : ¬ 20 < (len2 : Int)) (hi : ¬ i < 0) :
    Calls Try.prog 4 #[.agg #[.int .i64 mi, .int .i64 ms, .int .i64 mp, .int .i64 mq, .bool mb], .agg #[.int .i64 i, .int .i64 st, .int .i64 pr, .int .i64 q, .bool b], .slice a2 len2 cap2, .int .u8 a3, .bool false] w fun e w' => e = .returned (.bool true) ∧ Below w.heap.size w w' := by
  have W2 := Lib.hid w2
  clear w2
  have hn := Lib.hid (show 0 ≤ a3 % 64 ∧ a3 % 64 < 64 by omega)
  go_enter Try.func4, Try.ntmps4
  go_wp2_with fail
  refine (alive_any _).mono ?_
  rintro e v1 ⟨rfl, g1⟩
  have M1 := Lib.hid (((Own.start w).alloc _ _).alloc _ _ |>.grown g1.out)
  simp only [size_alloc] at M1
  have o0 := M1.out.cell 0 0 rfl rfl; have o1 := M1.out.cell 0 1 rfl rfl; have o2 := M1.out.cell 0 2 rfl rfl; have o3 := M1.out.cell 0 3 rfl rfl; have o4 := M1.out.cell 0 4 rfl rfl
  have m0 := M1.out.cell 1 0 rfl rfl; have m1 := M1.out.cell 1 1 rfl rfl; have m2 := M1.out.cell 1 2 rfl rfl; have m3 := M1.out.cell 1 3 rfl rfl; have m4 := M1.out.cell 1 4 rfl rfl
  go_wp2_with fail
  refine (fresh_any _).mono ?_
  rintro e v2 ⟨rfl, g2⟩
  have M2 := Lib.hid ((M1.out.grown g2.out).alloc 23 [.int .i64 (-1), .int .i64 0, .int .i64 0, .int .i64 0, .int .i64 0])
  clear o0 o1 o2 o3 o4 m0 m1 m2 m3 m4 M1 g1 g2
  go_wp2
  generalize v2.heap.size = sb at *
  generalize v2.alloc (.cells #[.int .i64 (-1), .int .i64 0, .int .i64 0, .int .i64 0, .int .i64 0] 23) = v3 at *
  have M3 := M2
  go_loopw [13] (fun iv wr => Rel w sb len2 false mi ms mp mq mb i st pr q b iv wr) (fun iv _ => (len2 - intOf iv).toNat)
  case atStart => exact ⟨0, -1, 0, by omega, rfl, fun _ => rfl, fun h => absurd rfl h, by rw [yAt_0]; exact M3.out⟩
  case round =>
    obtain ⟨k, f, p, hk, rfl, h0, h1, M0⟩ := hrel
    have M3 := Lib.hid M0
    have H0 := Lib.hid h0
    have H1 := Lib.hid h1
    clear M0 M2 h0 h1
    by_cases hlt : k < len2
    · obtain ⟨_, _, hx | ⟨b2, off2, rfl, hb2, hz⟩⟩ := W2.out
      · exfalso; omega
      have he : wr.cell? ⟨b2, off2 + k, none⟩ = some (.int .i64 (z2 k)) := M3.out.old (hz k hlt).1
      have hwf := (hz k hlt).2
      have hb3 : b2 < wr.heap.size := Nat.lt_of_lt_of_le hb2 M3.out.size
      have hlt' : (k : Int) < (len2 : Int) := by omega
      have Hz := Lib.hid hz
      clear hz
      have Hok := dOk ms st ((k : Int) + 1) (yAt ms st false k) (1 + a3 % 64) (by omega)
      have HD := fun u => decide_one false f p k mi ms mp mq mb i st pr q b (z2 k) (1 + a3 % 64) H0.out H1.out (by omega) (by omega) (by omega) (by omega) u
      have hcase : (ms < st ∧ dK ms st ((k : Int) + 1) (yAt ms st false k) = 1 ∧ yAt ms st false (k + 1) = 0) ∨ (¬ ms < st ∧ k < 3 ∧ dK ms st ((k : Int) + 1) (yAt ms st false k) = 2 ∧ yAt ms st false (k + 1) = 0) ∨ (¬ ms < st ∧ k = 3 ∧ dK ms st ((k : Int) + 1) (yAt ms st false k) = 3 ∧ yAt ms st false (k + 1) = 1) ∨ (¬ ms < st ∧ 3 < k ∧ dK ms st ((k : Int) + 1) (yAt ms st false k) = 1 ∧ yAt ms st false (k + 1) = 1) := by
        by_cases c1 : ms < st
        · exact .inl ⟨c1, (at_elder ms st false k c1).1, (at_elder ms st false k c1).2⟩
        by_cases c2 : k < 3
        · exact .inr (.inl ⟨c1, c2, (at_first ms st false k c1 c2).1, (at_first ms st false k c1 c2).2⟩)
        by_cases c3 : k = 3
        · exact .inr (.inr (.inl ⟨c1, c3, (at_fourth ms st false k c1 c3).1, (at_fourth ms st false k c1 c3).2⟩))
        · exact .inr (.inr (.inr ⟨c1, by omega, (at_late ms st false k c1 (by omega)).1, (at_late ms st false k c1 (by omega)).2⟩))
      have HC := Lib.hid hcase
      clear hcase
      generalize dN ms st ((k : Int) + 1) (1 + a3 % 64) = N at *
      generalize dK ms st ((k : Int) + 1) (yAt ms st false k) = K at *
      generalize hY : yAt ms st false (k + 1) = Y at *
      generalize yAt ms st false k = y at *
      have HY := Lib.hid hY
      have Hok := Lib.hid Hok
      have HD := Lib.hid HD
      clear hY
      go_wp2
      go_cut [14, 15] from 34 to 107 (fun dv xv wc => Mid w sb K N Y k f y p mi ms mp mq mb i st pr q b dv xv wc)
      case first =>
        have s0 := M3.out.cell 0 0 rfl rfl; have s1 := M3.out.cell 0 1 rfl rfl; have s2 := M3.out.cell 0 2 rfl rfl; have s3 := M3.out.cell 0 3 rfl rfl; have s4 := M3.out.cell 0 4 rfl rfl
        have o0 := M3.out.cell 1 0 rfl rfl; have o1 := M3.out.cell 1 1 rfl rfl; have o2 := M3.out.cell 1 2 rfl rfl; have o3 := M3.out.cell 1 3 rfl rfl; have o4 := M3.out.cell 1 4 rfl rfl
        have m0 := M3.out.cell 2 0 rfl rfl; have m1 := M3.out.cell 2 1 rfl rfl; have m2 := M3.out.cell 2 2 rfl rfl; have m3 := M3.out.cell 2 3 rfl rfl; have m4 := M3.out.cell 2 4 rfl rfl
        have e1 := World.new_ne wr _ s0
        have e2 := World.new_ne wr _ o0
        have e3 := World.new_ne wr _ m0
        have e4 := World.new_ne wr _ he
        have hsz := M3.out.lt 0 rfl
        have hsw := M3.out.lt 1 rfl
        have e5 : wr.heap.size + 1 ≠ sb := by omega
        have e6 : wr.heap.size + 1 ≠ w.heap.size + 1 := by omega
        have e7 : wr.heap.size + 1 ≠ w.heap.size := by omega
        have e8 : wr.heap.size + 1 ≠ b2 := by omega
        go_region_held3 (fun w' => w'.cell? ⟨sb, 0, none⟩ = some (.int .i64 f) ∧ w'.cell? ⟨sb, 1, none⟩ = some (.int .i64 k) ∧ w'.cell? ⟨sb, 2, none⟩ = some (.int .i64 y) ∧ w'.cell? ⟨sb, 3, none⟩ = some (.int .i64 p) ∧ w'.cell? ⟨sb, 4, none⟩ = some (.int .i64 0) ∧ w'.cell? ⟨w.heap.size + 1, 0, none⟩ = some (.int .i64 i) ∧ w'.cell? ⟨w.heap.size + 1, 1, none⟩ = some (.int .i64 st) ∧ w'.cell? ⟨w.heap.size + 1, 2, none⟩ = some (.int .i64 pr) ∧ w'.cell? ⟨w.heap.size + 1, 3, none⟩ = some (.int .i64 q) ∧ w'.cell? ⟨w.heap.size + 1, 4, none⟩ = some (.bool b) ∧ w'.cell? ⟨w.heap.size, 0, none⟩ = some (.int .i64 mi) ∧ w'.cell? ⟨w.heap.size, 1, none⟩ = some (.int .i64 ms) ∧ w'.cell? ⟨w.heap.size, 2, none⟩ = some (.int .i64 mp) ∧ w'.cell? ⟨w.heap.size, 3, none⟩ = some (.int .i64 mq) ∧ w'.cell? ⟨w.heap.size, 4, none⟩ = some (.bool mb) ∧ w'.cell? ⟨b2, off2 + k, none⟩ = some (.int .i64 (z2 k))) (go_keep) ((go_at_call 8; refine (HD.out _).mono ?_; rintro e v4 ⟨rfl, g4⟩; (first | (have M4 := Lib.hid ((((M3.out.alloc _ _).alloc _ _).drew).grown g4.out); (try simp only [size_alloc] at M4); have b0 := M4.out.lt 0 rfl; have b1 := M4.out.lt 1 rfl; have sa0 := M4.out.cell 2 0 rfl rfl; have sa1 := M4.out.cell 2 1 rfl rfl; have sa2 := M4.out.cell 2 2 rfl rfl; have sa3 := M4.out.cell 2 3 rfl rfl; have sa4 := M4.out.cell 2 4 rfl rfl; have oa0 := M4.out.cell 3 0 rfl rfl; have oa1 := M4.out.cell 3 1 rfl rfl; have oa2 := M4.out.cell 3 2 rfl rfl; have oa3 := M4.out.cell 3 3 rfl rfl; have oa4 := M4.out.cell 3 4 rfl rfl; have ma0 := M4.out.cell 4 0 rfl rfl; have ma1 := M4.out.cell 4 1 rfl rfl; have ma2 := M4.out.cell 4 2 rfl rfl; have ma3 := M4.out.cell 4 3 rfl rfl; have ma4 := M4.out.cell 4 4 rfl rfl; have n00 := M4.out.cell 0 0 rfl rfl; have n01 := M4.out.cell 0 1 rfl rfl; have n02 := M4.out.cell 0 2 rfl rfl; have n03 := M4.out.cell 0 3 rfl rfl; have n04 := M4.out.cell 0 4 rfl rfl; have nf00 := M4.out.free 0 0 rfl; have nf01 := M4.out.free 0 1 rfl; have nf02 := M4.out.free 0 2 rfl; have nf03 := M4.out.free 0 3 rfl; have nf04 := M4.out.free 0 4 rfl; have n10 := M4.out.cell 1 0 rfl rfl; have n11 := M4.out.cell 1 1 rfl rfl; have nf10 := M4.out.free 1 0 rfl; have nf11 := M4.out.free 1 1 rfl) | (have M4 := Lib.hid ((((M3.out.alloc _ _).alloc _ _).drew).grown g4.out); (try simp only [size_alloc] at M4); have b0 := M4.out.lt 0 rfl; have b1 := M4.out.lt 1 rfl; have sa0 := M4.out.cell 2 0 rfl rfl; have sa1 := M4.out.cell 2 1 rfl rfl; have sa2 := M4.out.cell 2 2 rfl rfl; have sa3 := M4.out.cell 2 3 rfl rfl; have sa4 := M4.out.cell 2 4 rfl rfl; have oa0 := M4.out.cell 3 0 rfl rfl; have oa1 := M4.out.cell 3 1 rfl rfl; have oa2 := M4.out.cell 3 2 rfl rfl; have oa3 := M4.out.cell 3 3 rfl rfl; have oa4 := M4.out.cell 3 4 rfl rfl; have ma0 := M4.out.cell 4 0 rfl rfl; have ma1 := M4.out.cell 4 1 rfl rfl; have ma2 := M4.out.cell 4 2 rfl rfl; have ma3 := M4.out.cell 4 3 rfl rfl; have ma4 := M4.out.cell 4 4 rfl rfl; have n00 := M4.out.cell 0 0 rfl rfl; have n01 := M4.out.cell 0 1 rfl rfl; have nf00 := M4.out.free 0 0 rfl; have nf01 := M4.out.free 0 1 rfl; have n10 := M4.out.cell 1 0 rfl rfl; have n11 := M4.out.cell 1 1 rfl rfl; have n12 := M4.out.cell 1 2 rfl rfl; have n13 := M4.out.cell 1 3 rfl rfl; have n14 := M4.out.cell 1 4 rfl rfl; have nf10 := M4.out.free 1 0 rfl; have nf11 := M4.out.free 1 1 rfl; have nf12 := M4.out.free 1 2 rfl; have nf13 := M4.out.free 1 3 rfl; have nf14 := M4.out.free 1 4 rfl) | (have M4 := Lib.hid (((M3.out.alloc _ _).drew).grown g4.out); (try simp only [size_alloc] at M4); have b0 := M4.out.lt 0 rfl; have sa0 := M4.out.cell 1 0 rfl rfl; have sa1 := M4.out.cell 1 1 rfl rfl; have sa2 := M4.out.cell 1 2 rfl rfl; have sa3 := M4.out.cell 1 3 rfl rfl; have sa4 := M4.out.cell 1 4 rfl rfl; have oa0 := M4.out.cell 2 0 rfl rfl; have oa1 := M4.out.cell 2 1 rfl rfl; have oa2 := M4.out.cell 2 2 rfl rfl; have oa3 := M4.out.cell 2 3 rfl rfl; have oa4 := M4.out.cell 2 4 rfl rfl; have ma0 := M4.out.cell 3 0 rfl rfl; have ma1 := M4.out.cell 3 1 rfl rfl; have ma2 := M4.out.cell 3 2 rfl rfl; have ma3 := M4.out.cell 3 3 rfl rfl; have ma4 := M4.out.cell 3 4 rfl rfl; have n00 := M4.out.cell 0 0 rfl rfl; have n01 := M4.out.cell 0 1 rfl rfl; have n02 := M4.out.cell 0 2 rfl rfl; have n03 := M4.out.cell 0 3 rfl rfl; have n04 := M4.out.cell 0 4 rfl rfl; have nf00 := M4.out.free 0 0 rfl; have nf01 := M4.out.free 0 1 rfl; have nf02 := M4.out.free 0 2 rfl; have nf03 := M4.out.free 0 3 rfl; have nf04 := M4.out.free 0 4 rfl) | (have M4 := Lib.hid (((M3.out.alloc _ _).drew).grown g4.out); (try simp only [size_alloc] at M4); have b0 := M4.out.lt 0 rfl; have sa0 := M4.out.cell 1 0 rfl rfl; have sa1 := M4.out.cell 1 1 rfl rfl; have sa2 := M4.out.cell 1 2 rfl rfl; have sa3 := M4.out.cell 1 3 rfl rfl; have sa4 := M4.out.cell 1 4 rfl rfl; have oa0 := M4.out.cell 2 0 rfl rfl; have oa1 := M4.out.cell 2 1 rfl rfl; have oa2 := M4.out.cell 2 2 rfl rfl; have oa3 := M4.out.cell 2 3 rfl rfl; have oa4 := M4.out.cell 2 4 rfl rfl; have ma0 := M4.out.cell 3 0 rfl rfl; have ma1 := M4.out.cell 3 1 rfl rfl; have ma2 := M4.out.cell 3 2 rfl rfl; have ma3 := M4.out.cell 3 3 rfl rfl; have ma4 := M4.out.cell 3 4 rfl rfl; have n00 := M4.out.cell 0 0 rfl rfl; have n01 := M4.out.cell 0 1 rfl rfl; have nf00 := M4.out.free 0 0 rfl; have nf01 := M4.out.free 0 1 rfl) | (have M4 := Lib.hid ((M3.out.drew).grown g4.out); have sa0 := M4.out.cell 0 0 rfl rfl; have sa1 := M4.out.cell 0 1 rfl rfl; have sa2 := M4.out.cell 0 2 rfl rfl; have sa3 := M4.out.cell 0 3 rfl rfl; have sa4 := M4.out.cell 0 4 rfl rfl; have oa0 := M4.out.cell 1 0 rfl rfl; have oa1 := M4.out.cell 1 1 rfl rfl; have oa2 := M4.out.cell 1 2 rfl rfl; have oa3 := M4.out.cell 1 3 rfl rfl; have oa4 := M4.out.cell 1 4 rfl rfl; have ma0 := M4.out.cell 2 0 rfl rfl; have ma1 := M4.out.cell 2 1 rfl rfl; have ma2 := M4.out.cell 2 2 rfl rfl; have ma3 := M4.out.cell 2 3 rfl rfl; have ma4 := M4.out.cell 2 4 rfl rfl)); have hea : v4.cell? ⟨b2, off2 + k, none⟩ = some (.int .i64 (z2 k)) := M4.out.old (Hz.out k hlt).1; have ea1 := World.new_ne v4 _ sa0; have ea2 := World.new_ne v4 _ oa0; have ea3 := World.new_ne v4 _ ma0; have ea4 := World.new_ne v4 _ hea))
        all_goals go_wp2
        all_goals go_meet
        all_goals refine ⟨_, _, rfl, rfl, ?_⟩
        · exact (by simpa only [size_alloc] using (M4.out.alloc 28 _).alloc 23 _)
        · exact (by simpa only [size_alloc] using ((M4.out.alloc 23 _).alloc 28 _).swap)
        · exact (by simpa only [size_alloc, size_setCell, List.set_cons_zero, List.set_cons_succ] using Own.alloc ((M4.out.set 0 0 (.int .i64 K) rfl).set 0 1 (.int .i64 N) rfl) 23 _)
        · exact (by simpa only [size_alloc, size_setCell, List.set_cons_zero, List.set_cons_succ] using ((((((((M4.out.set 1 0 (.int .i64 K) rfl).set 1 1 (.int .i64 N) rfl)).set 0 0 (.int .i64 i) rfl).set 0 1 (.int .i64 ((k : Int) + 1)) rfl).set 0 2 (.int .i64 Y) rfl).set 0 3 (.int .i64 q) rfl).set 0 4 (.int .i64 0) rfl))
        · exact (by simpa only [size_alloc, size_setCell, List.set_cons_zero, List.set_cons_succ] using (Own.alloc (((((M4.out.set 0 0 (.int .i64 i) rfl).set 0 1 (.int .i64 ((k : Int) + 1)) rfl).set 0 2 (.int .i64 Y) rfl).set 0 3 (.int .i64 q) rfl).set 0 4 (.int .i64 0) rfl) 28 _).swap)
        · exact (by simpa only [size_alloc, size_setCell, List.set_cons_zero, List.set_cons_succ] using Own.swap ((((((((M4.out.set 0 0 (.int .i64 K) rfl).set 0 1 (.int .i64 N) rfl)).set 1 0 (.int .i64 i) rfl).set 1 1 (.int .i64 ((k : Int) + 1)) rfl).set 1 2 (.int .i64 Y) rfl).set 1 3 (.int .i64 q) rfl).set 1 4 (.int .i64 0) rfl))
      case rest =>
        obtain ⟨db, xb, rfl, rfl, M0⟩ := hcut
        have M5 := Lib.hid M0
        clear M0 M3 he hwf hb3 HD
        rcases HC.out with ⟨c1, rfl, rfl⟩ | ⟨c1, c2, rfl, rfl⟩ | ⟨c1, c2, rfl, rfl⟩ | ⟨c1, c2, rfl, rfl⟩
        · clear HC
          have d1 : decide (st ≤ ms) = false := by simp; omega
          clear c1
          have d0 := M5.out.cell 1 0 rfl rfl; have d1 := M5.out.cell 1 1 rfl rfl
          have x0 := M5.out.cell 0 0 rfl rfl; have x1 := M5.out.cell 0 1 rfl rfl; have x2 := M5.out.cell 0 2 rfl rfl; have x3 := M5.out.cell 0 3 rfl rfl; have x4 := M5.out.cell 0 4 rfl rfl
          have o0 := M5.out.cell 3 0 rfl rfl; have o1 := M5.out.cell 3 1 rfl rfl; have o2 := M5.out.cell 3 2 rfl rfl; have o3 := M5.out.cell 3 3 rfl rfl; have o4 := M5.out.cell 3 4 rfl rfl
          have m0 := M5.out.cell 4 0 rfl rfl; have m1 := M5.out.cell 4 1 rfl rfl; have m2 := M5.out.cell 4 2 rfl rfl; have m3 := M5.out.cell 4 3 rfl rfl; have m4 := M5.out.cell 4 4 rfl rfl
          go_wp2_with fail
          refine (ok_true _ _ (1 + a3 % 64) Hok.out _).mono ?_
          rintro e v6 ⟨rfl, g6⟩
          have M6 := Lib.hid (M5.out.grown g6.out)
          clear d0 d1 x0 x1 x2 x3 x4 o0 o1 o2 o3 o4 m0 m1 m2 m3 m4 M5 g6
          have d0 := M6.out.cell 1 0 rfl rfl; have d1 := M6.out.cell 1 1 rfl rfl
          have x0 := M6.out.cell 0 0 rfl rfl; have x1 := M6.out.cell 0 1 rfl rfl; have x2 := M6.out.cell 0 2 rfl rfl; have x3 := M6.out.cell 0 3 rfl rfl; have x4 := M6.out.cell 0 4 rfl rfl
          have o0 := M6.out.cell 3 0 rfl rfl; have o1 := M6.out.cell 3 1 rfl rfl; have o2 := M6.out.cell 3 2 rfl rfl; have o3 := M6.out.cell 3 3 rfl rfl; have o4 := M6.out.cell 3 4 rfl rfl
          have m0 := M6.out.cell 4 0 rfl rfl; have m1 := M6.out.cell 4 1 rfl rfl; have m2 := M6.out.cell 4 2 rfl rfl; have m3 := M6.out.cell 4 3 rfl rfl; have m4 := M6.out.cell 4 4 rfl rfl
          have s0 := M6.out.cell 2 0 rfl rfl; have s1 := M6.out.cell 2 1 rfl rfl; have s2 := M6.out.cell 2 2 rfl rfl; have s3 := M6.out.cell 2 3 rfl rfl; have s4 := M6.out.cell 2 4 rfl rfl
          have sf0 := M6.out.free 2 0 rfl; have sf1 := M6.out.free 2 1 rfl; have sf2 := M6.out.free 2 2 rfl; have sf3 := M6.out.free 2 3 rfl; have sf4 := M6.out.free 2 4 rfl
          have hxs := M6.out.ne' 0 2 rfl rfl (by decide)
          go_wp2
          go_roundw
          case rel => exact ⟨k + 1, i, q, by omega, by go_num, fun h => by omega, fun _ => ⟨rfl, rfl⟩, by rw [HY.out]; exact (((((M6.out.set 2 0 (.int .i64 i) rfl).set 2 1 (.int .i64 ((k : Int) + 1)) rfl).set 2 2 (.int .i64 0) rfl).set 2 3 (.int .i64 q) rfl).set 2 4 (.int .i64 0) rfl).drop (List.Sublist.cons _ (List.Sublist.cons _ (List.Sublist.refl _)))⟩
          case measure => simp [intOf]; omega
        · clear HC
          have d1 : decide (st ≤ ms) = true := by simp; omega
          have d2 : decide ((k : Int) < 3) = true := by simp; omega
          have d4 : decide (3 < (k : Int)) = false := by simp; omega
          clear c1
          have d0 := M5.out.cell 1 0 rfl rfl; have d1 := M5.out.cell 1 1 rfl rfl
          have x0 := M5.out.cell 0 0 rfl rfl; have x1 := M5.out.cell 0 1 rfl rfl; have x2 := M5.out.cell 0 2 rfl rfl; have x3 := M5.out.cell 0 3 rfl rfl; have x4 := M5.out.cell 0 4 rfl rfl
          have o0 := M5.out.cell 3 0 rfl rfl; have o1 := M5.out.cell 3 1 rfl rfl; have o2 := M5.out.cell 3 2 rfl rfl; have o3 := M5.out.cell 3 3 rfl rfl; have o4 := M5.out.cell 3 4 rfl rfl
          have m0 := M5.out.cell 4 0 rfl rfl; have m1 := M5.out.cell 4 1 rfl rfl; have m2 := M5.out.cell 4 2 rfl rfl; have m3 := M5.out.cell 4 3 rfl rfl; have m4 := M5.out.cell 4 4 rfl rfl
          go_wp2_with fail
          refine (ok_true _ _ (1 + a3 % 64) Hok.out _).mono ?_
          rintro e v6 ⟨rfl, g6⟩
          have M6 := Lib.hid (M5.out.grown g6.out)
          clear d0 d1 x0 x1 x2 x3 x4 o0 o1 o2 o3 o4 m0 m1 m2 m3 m4 M5 g6
          have d0 := M6.out.cell 1 0 rfl rfl; have d1 := M6.out.cell 1 1 rfl rfl
          have x0 := M6.out.cell 0 0 rfl rfl; have x1 := M6.out.cell 0 1 rfl rfl; have x2 := M6.out.cell 0 2 rfl rfl; have x3 := M6.out.cell 0 3 rfl rfl; have x4 := M6.out.cell 0 4 rfl rfl
          have o0 := M6.out.cell 3 0 rfl rfl; have o1 := M6.out.cell 3 1 rfl rfl; have o2 := M6.out.cell 3 2 rfl rfl; have o3 := M6.out.cell 3 3 rfl rfl; have o4 := M6.out.cell 3 4 rfl rfl
          have m0 := M6.out.cell 4 0 rfl rfl; have m1 := M6.out.cell 4 1 rfl rfl; have m2 := M6.out.cell 4 2 rfl rfl; have m3 := M6.out.cell 4 3 rfl rfl; have m4 := M6.out.cell 4 4 rfl rfl
          have s0 := M6.out.cell 2 0 rfl rfl; have s1 := M6.out.cell 2 1 rfl rfl; have s2 := M6.out.cell 2 2 rfl rfl; have s3 := M6.out.cell 2 3 rfl rfl; have s4 := M6.out.cell 2 4 rfl rfl
          have sf0 := M6.out.free 2 0 rfl; have sf1 := M6.out.free 2 1 rfl; have sf2 := M6.out.free 2 2 rfl; have sf3 := M6.out.free 2 3 rfl; have sf4 := M6.out.free 2 4 rfl
          have hxs := M6.out.ne' 0 2 rfl rfl (by decide)
          go_wp2
          go_roundw
          case rel => exact ⟨k + 1, i, q, by omega, by go_num, fun h => by omega, fun _ => ⟨rfl, rfl⟩, by rw [HY.out]; exact (((((M6.out.set 2 0 (.int .i64 i) rfl).set 2 1 (.int .i64 ((k : Int) + 1)) rfl).set 2 2 (.int .i64 0) rfl).set 2 3 (.int .i64 q) rfl).set 2 4 (.int .i64 0) rfl).drop (List.Sublist.cons _ (List.Sublist.cons _ (List.Sublist.refl _)))⟩
          case measure => simp [intOf]; omega
        · clear HC
          have d1 : decide (st ≤ ms) = true := by simp; omega
          have d2 : decide ((k : Int) < 3) = false := by simp; omega
          have d3 : ((k : Int) == 3) = true := by simp; omega
          have d4 : decide (3 < (k : Int)) = false := by simp; omega
          have c2 := Lib.hid c2
          clear c1
          have d0 := M5.out.cell 1 0 rfl rfl; have d1 := M5.out.cell 1 1 rfl rfl
          have x0 := M5.out.cell 0 0 rfl rfl; have x1 := M5.out.cell 0 1 rfl rfl; have x2 := M5.out.cell 0 2 rfl rfl; have x3 := M5.out.cell 0 3 rfl rfl; have x4 := M5.out.cell 0 4 rfl rfl
          have o0 := M5.out.cell 3 0 rfl rfl; have o1 := M5.out.cell 3 1 rfl rfl; have o2 := M5.out.cell 3 2 rfl rfl; have o3 := M5.out.cell 3 3 rfl rfl; have o4 := M5.out.cell 3 4 rfl rfl
          have m0 := M5.out.cell 4 0 rfl rfl; have m1 := M5.out.cell 4 1 rfl rfl; have m2 := M5.out.cell 4 2 rfl rfl; have m3 := M5.out.cell 4 3 rfl rfl; have m4 := M5.out.cell 4 4 rfl rfl
          go_wp2_with fail
          refine (ok_true _ _ (1 + a3 % 64) Hok.out _).mono ?_
          rintro e v6 ⟨rfl, g6⟩
          have M6 := Lib.hid (M5.out.grown g6.out)
          clear d0 d1 x0 x1 x2 x3 x4 o0 o1 o2 o3 o4 m0 m1 m2 m3 m4 M5 g6
          have d0 := M6.out.cell 1 0 rfl rfl; have d1 := M6.out.cell 1 1 rfl rfl
          have x0 := M6.out.cell 0 0 rfl rfl; have x1 := M6.out.cell 0 1 rfl rfl; have x2 := M6.out.cell 0 2 rfl rfl; have x3 := M6.out.cell 0 3 rfl rfl; have x4 := M6.out.cell 0 4 rfl rfl
          have o0 := M6.out.cell 3 0 rfl rfl; have o1 := M6.out.cell 3 1 rfl rfl; have o2 := M6.out.cell 3 2 rfl rfl; have o3 := M6.out.cell 3 3 rfl rfl; have o4 := M6.out.cell 3 4 rfl rfl
          have m0 := M6.out.cell 4 0 rfl rfl; have m1 := M6.out.cell 4 1 rfl rfl; have m2 := M6.out.cell 4 2 rfl rfl; have m3 := M6.out.cell 4 3 rfl rfl; have m4 := M6.out.cell 4 4 rfl rfl
          have s0 := M6.out.cell 2 0 rfl rfl; have s1 := M6.out.cell 2 1 rfl rfl; have s2 := M6.out.cell 2 2 rfl rfl; have s3 := M6.out.cell 2 3 rfl rfl; have s4 := M6.out.cell 2 4 rfl rfl
          have sf0 := M6.out.free 2 0 rfl; have sf1 := M6.out.free 2 1 rfl; have sf2 := M6.out.free 2 2 rfl; have sf3 := M6.out.free 2 3 rfl; have sf4 := M6.out.free 2 4 rfl
          have hxs := M6.out.ne' 0 2 rfl rfl (by decide)
          go_wp2
          go_roundw
          case rel => exact ⟨4, i, q, by have := c2.out; omega, rfl, fun h => by omega, fun _ => ⟨rfl, rfl⟩, by rw [show yAt ms st false 4 = 1 from by have := HY.out; rw [c2.out] at this; exact this]; exact (((((M6.out.set 2 0 (.int .i64 i) rfl).set 2 1 (.int .i64 4) rfl).set 2 2 (.int .i64 1) rfl).set 2 3 (.int .i64 q) rfl).set 2 4 (.int .i64 0) rfl).drop (List.Sublist.cons _ (List.Sublist.cons _ (List.Sublist.refl _)))⟩
          case measure => have := c2.out; simp [intOf]; omega
        · clear HC
          have d1 : decide (st ≤ ms) = true := by simp; omega
          have d2 : decide ((k : Int) < 3) = false := by simp; omega
          have d3 : ((k : Int) == 3) = false := by simp; omega
          have d4 : decide (3 < (k : Int)) = true := by simp; omega
          clear c1
          have d0 := M5.out.cell 1 0 rfl rfl; have d1 := M5.out.cell 1 1 rfl rfl
          have x0 := M5.out.cell 0 0 rfl rfl; have x1 := M5.out.cell 0 1 rfl rfl; have x2 := M5.out.cell 0 2 rfl rfl; have x3 := M5.out.cell 0 3 rfl rfl; have x4 := M5.out.cell 0 4 rfl rfl
          have o0 := M5.out.cell 3 0 rfl rfl; have o1 := M5.out.cell 3 1 rfl rfl; have o2 := M5.out.cell 3 2 rfl rfl; have o3 := M5.out.cell 3 3 rfl rfl; have o4 := M5.out.cell 3 4 rfl rfl
          have m0 := M5.out.cell 4 0 rfl rfl; have m1 := M5.out.cell 4 1 rfl rfl; have m2 := M5.out.cell 4 2 rfl rfl; have m3 := M5.out.cell 4 3 rfl rfl; have m4 := M5.out.cell 4 4 rfl rfl
          go_wp2_with fail
          refine (ok_true _ _ (1 + a3 % 64) Hok.out _).mono ?_
          rintro e v6 ⟨rfl, g6⟩
          have M6 := Lib.hid (M5.out.grown g6.out)
          clear d0 d1 x0 x1 x2 x3 x4 o0 o1 o2 o3 o4 m0 m1 m2 m3 m4 M5 g6
          have d0 := M6.out.cell 1 0 rfl rfl; have d1 := M6.out.cell 1 1 rfl rfl
          have x0 := M6.out.cell 0 0 rfl rfl; have x1 := M6.out.cell 0 1 rfl rfl; have x2 := M6.out.cell 0 2 rfl rfl; have x3 := M6.out.cell 0 3 rfl rfl; have x4 := M6.out.cell 0 4 rfl rfl
          have o0 := M6.out.cell 3 0 rfl rfl; have o1 := M6.out.cell 3 1 rfl rfl; have o2 := M6.out.cell 3 2 rfl rfl; have o3 := M6.out.cell 3 3 rfl rfl; have o4 := M6.out.cell 3 4 rfl rfl
          have m0 := M6.out.cell 4 0 rfl rfl; have m1 := M6.out.cell 4 1 rfl rfl; have m2 := M6.out.cell 4 2 rfl rfl; have m3 := M6.out.cell 4 3 rfl rfl; have m4 := M6.out.cell 4 4 rfl rfl
          have s0 := M6.out.cell 2 0 rfl rfl; have s1 := M6.out.cell 2 1 rfl rfl; have s2 := M6.out.cell 2 2 rfl rfl; have s3 := M6.out.cell 2 3 rfl rfl; have s4 := M6.out.cell 2 4 rfl rfl
          have sf0 := M6.out.free 2 0 rfl; have sf1 := M6.out.free 2 1 rfl; have sf2 := M6.out.free 2 2 rfl; have sf3 := M6.out.free 2 3 rfl; have sf4 := M6.out.free 2 4 rfl
          have hxs := M6.out.ne' 0 2 rfl rfl (by decide)
          go_wp2
          go_roundw
          case rel => exact ⟨k + 1, i, q, by omega, by go_num, fun h => by omega, fun _ => ⟨rfl, rfl⟩, by rw [HY.out]; exact (((((M6.out.set 2 0 (.int .i64 i) rfl).set 2 1 (.int .i64 ((k : Int) + 1)) rfl).set 2 2 (.int .i64 1) rfl).set 2 3 (.int .i64 q) rfl).set 2 4 (.int .i64 0) rfl).drop (List.Sublist.cons _ (List.Sublist.cons _ (List.Sublist.refl _)))⟩
          case measure => simp [intOf]; omega
    · go_wp2_with fail
      refine (marks_any _).mono ?_
      rintro e v6 ⟨rfl, g6⟩
      go_wp2
      go_ret
      exact ⟨rfl, (M3.out.grown g6.out).below⟩

set_option maxRecDepth 100000 in
set_option maxHeartbeats 4000000 in
theorem walk_yes (mi ms mp mq : Int) (mb : Bool) (i st pr q : Int) (b : Bool) (a2 : Option Addr) (len2 cap2 : Nat) (z2 : Nat → Int) (a3 : Int) (w : World) (w2 : IsRow .i64 w a2 len2 cap2 z2) (l3 : 0 ≤ a3) (u3 : a3 ≤ 255) (h : ¬ 20 < (len2 : Int)) (hi : ¬ i < 0) :
    Calls Try.prog 4 #[.agg #[.int .i64 mi, .int .i64 ms, .int .i64 mp, .int .i64 mq, .bool mb], .agg #[.int .i64 i, .int .i64 st, .int .i64 pr, .int .i64 q, .bool b], .slice a2 len2 cap2, .int .u8 a3, .bool true] w fun e w' => e = .returned (.bool true) ∧ Below w.heap.size w w' := by
  have W2 := Lib.hid w2
  clear w2
  have hn := Lib.hid (show 0 ≤ a3 % 64 ∧ a3 % 64 < 64 by omega)
  go_enter Try.func4, Try.ntmps4
  go_wp2_with fail
  refine (alive_any _).mono ?_
  rintro e v1 ⟨rfl, g1⟩
  have M1 := Lib.hid (((Own.start w).alloc _ _).alloc _ _ |>.grown g1.out)
  simp only [size_alloc] at M1
  have o0 := M1.out.cell 0 0 rfl rfl; have o1 := M1.out.cell 0 1 rfl rfl; have o2 := M1.out.cell 0 2 rfl rfl; have o3 := M1.out.cell 0 3 rfl rfl; have o4 := M1.out.cell 0 4 rfl rfl
  have m0 := M1.out.cell 1 0 rfl rfl; have m1 := M1.out.cell 1 1 rfl rfl; have m2 := M1.out.cell 1 2 rfl rfl; have m3 := M1.out.cell 1 3 rfl rfl; have m4 := M1.out.cell 1 4 rfl rfl
  go_wp2_with fail
  refine (fresh_any _).mono ?_
  rintro e v2 ⟨rfl, g2⟩
  have M2 := Lib.hid ((M1.out.grown g2.out).alloc 23 [.int .i64 (-1), .int .i64 0, .int .i64 1, .int .i64 0, .int .i64 0])
  clear o0 o1 o2 o3 o4 m0 m1 m2 m3 m4 M1 g1 g2
  go_wp2
  generalize v2.heap.size = sb at *
  generalize v2.alloc (.cells #[.int .i64 (-1), .int .i64 0, .int .i64 1, .int .i64 0, .int .i64 0] 23) = v3 at *
  have M3 := M2
  go_loopw [13] (fun iv wr => Rel w sb len2 true mi ms mp mq mb i st pr q b iv wr) (fun iv _ => (len2 - intOf iv).toNat)
  case atStart => exact ⟨0, -1, 0, by omega, rfl, fun _ => rfl, fun h => absurd rfl h, by rw [yAt_0]; exact M3.out⟩
  case round =>
    obtain ⟨k, f, p, hk, rfl, h0, h1, M0⟩ := hrel
    have M3 := Lib.hid M0
    have H0 := Lib.hid h0
    have H1 := Lib.hid h1
    clear M0 M2 h0 h1
    by_cases hlt : k < len2
    · obtain ⟨_, _, hx | ⟨b2, off2, rfl, hb2, hz⟩⟩ := W2.out
      · exfalso; omega
      have he : wr.cell? ⟨b2, off2 + k, none⟩ = some (.int .i64 (z2 k)) := M3.out.old (hz k hlt).1
      have hwf := (hz k hlt).2
      have hb3 : b2 < wr.heap.size := Nat.lt_of_lt_of_le hb2 M3.out.size
      have hlt' : (k : Int) < (len2 : Int) := by omega
      have Hz := Lib.hid hz
      clear hz
      have Hok := dOk ms st ((k : Int) + 1) (yAt ms st true k) (1 + a3 % 64) (by omega)
      have HD := fun u => decide_one true f p k mi ms mp mq mb i st pr q b (z2 k) (1 + a3 % 64) H0.out H1.out (by omega) (by omega) (by omega) (by omega) u
      have hcase : (ms < st ∧ dK ms st ((k : Int) + 1) (yAt ms st true k) = 1 ∧ yAt ms st true (k + 1) = 1) ∨ (¬ ms < st ∧ k < 3 ∧ dK ms st ((k : Int) + 1) (yAt ms st true k) = 2 ∧ yAt ms st true (k + 1) = 1) ∨ (¬ ms < st ∧ k = 3 ∧ dK ms st ((k : Int) + 1) (yAt ms st true k) = 1 ∧ yAt ms st true (k + 1) = 1) ∨ (¬ ms < st ∧ 3 < k ∧ dK ms st ((k : Int) + 1) (yAt ms st true k) = 1 ∧ yAt ms st true (k + 1) = 1) := by
        by_cases c1 : ms < st
        · exact .inl ⟨c1, (at_elder ms st true k c1).1, (at_elder ms st true k c1).2⟩
        by_cases c2 : k < 3
        · exact .inr (.inl ⟨c1, c2, (at_first ms st true k c1 c2).1, (at_first ms st true k c1 c2).2⟩)
        by_cases c3 : k = 3
        · exact .inr (.inr (.inl ⟨c1, c3, (at_fourth ms st true k c1 c3).1, (at_fourth ms st true k c1 c3).2⟩))
        · exact .inr (.inr (.inr ⟨c1, by omega, (at_late ms st true k c1 (by omega)).1, (at_late ms st true k c1 (by omega)).2⟩))
      have HC := Lib.hid hcase
      clear hcase
      generalize dN ms st ((k : Int) + 1) (1 + a3 % 64) = N at *
      generalize dK ms st ((k : Int) + 1) (yAt ms st true k) = K at *
      generalize hY : yAt ms st true (k + 1) = Y at *
      generalize yAt ms st true k = y at *
      have HY := Lib.hid hY
      have Hok := Lib.hid Hok
      have HD := Lib.hid HD
      clear hY
      go_wp2
      go_cut [14, 15] from 34 to 107 (fun dv xv wc => Mid w sb K N Y k f y p mi ms mp mq mb i st pr q b dv xv wc)
      case first =>
        have s0 := M3.out.cell 0 0 rfl rfl; have s1 := M3.out.cell 0 1 rfl rfl; have s2 := M3.out.cell 0 2 rfl rfl; have s3 := M3.out.cell 0 3 rfl rfl; have s4 := M3.out.cell 0 4 rfl rfl
        have o0 := M3.out.cell 1 0 rfl rfl; have o1 := M3.out.cell 1 1 rfl rfl; have o2 := M3.out.cell 1 2 rfl rfl; have o3 := M3.out.cell 1 3 rfl rfl; have o4 := M3.out.cell 1 4 rfl rfl
        have m0 := M3.out.cell 2 0 rfl rfl; have m1 := M3.out.cell 2 1 rfl rfl; have m2 := M3.out.cell 2 2 rfl rfl; have m3 := M3.out.cell 2 3 rfl rfl; have m4 := M3.out.cell 2 4 rfl rfl
        have e1 := World.new_ne wr _ s0
        have e2 := World.new_ne wr _ o0
        have e3 := World.new_ne wr _ m0
        have e4 := World.new_ne wr _ he
        have hsz := M3.out.lt 0 rfl
        have hsw := M3.out.lt 1 rfl
        have e5 : wr.heap.size + 1 ≠ sb := by omega
        have e6 : wr.heap.size + 1 ≠ w.heap.size + 1 := by omega
        have e7 : wr.heap.size + 1 ≠ w.heap.size := by omega
        have e8 : wr.heap.size + 1 ≠ b2 := by omega
        go_region_held3 (fun w' => w'.cell? ⟨sb, 0, none⟩ = some (.int .i64 f) ∧ w'.cell? ⟨sb, 1, none⟩ = some (.int .i64 k) ∧ w'.cell? ⟨sb, 2, none⟩ = some (.int .i64 y) ∧ w'.cell? ⟨sb, 3, none⟩ = some (.int .i64 p) ∧ w'.cell? ⟨sb, 4, none⟩ = some (.int .i64 0) ∧ w'.cell? ⟨w.heap.size + 1, 0, none⟩ = some (.int .i64 i) ∧ w'.cell? ⟨w.heap.size + 1, 1, none⟩ = some (.int .i64 st) ∧ w'.cell? ⟨w.heap.size + 1, 2, none⟩ = some (.int .i64 pr) ∧ w'.cell? ⟨w.heap.size + 1, 3, none⟩ = some (.int .i64 q) ∧ w'.cell? ⟨w.heap.size + 1, 4, none⟩ = some (.bool b) ∧ w'.cell? ⟨w.heap.size, 0, none⟩ = some (.int .i64 mi) ∧ w'.cell? ⟨w.heap.size, 1, none⟩ = some (.int .i64 ms) ∧ w'.cell? ⟨w.heap.size, 2, none⟩ = some (.int .i64 mp) ∧ w'.cell? ⟨w.heap.size, 3, none⟩ = some (.int .i64 mq) ∧ w'.cell? ⟨w.heap.size, 4, none⟩ = some (.bool mb) ∧ w'.cell? ⟨b2, off2 + k, none⟩ = some (.int .i64 (z2 k))) (go_keep) ((go_at_call 8; refine (HD.out _).mono ?_; rintro e v4 ⟨rfl, g4⟩; (first | (have M4 := Lib.hid ((((M3.out.alloc _ _).alloc _ _).drew).grown g4.out); (try simp only [size_alloc] at M4); have b0 := M4.out.lt 0 rfl; have b1 := M4.out.lt 1 rfl; have sa0 := M4.out.cell 2 0 rfl rfl; have sa1 := M4.out.cell 2 1 rfl rfl; have sa2 := M4.out.cell 2 2 rfl rfl; have sa3 := M4.out.cell 2 3 rfl rfl; have sa4 := M4.out.cell 2 4 rfl rfl; have oa0 := M4.out.cell 3 0 rfl rfl; have oa1 := M4.out.cell 3 1 rfl rfl; have oa2 := M4.out.cell 3 2 rfl rfl; have oa3 := M4.out.cell 3 3 rfl rfl; have oa4 := M4.out.cell 3 4 rfl rfl; have ma0 := M4.out.cell 4 0 rfl rfl; have ma1 := M4.out.cell 4 1 rfl rfl; have ma2 := M4.out.cell 4 2 rfl rfl; have ma3 := M4.out.cell 4 3 rfl rfl; have ma4 := M4.out.cell 4 4 rfl rfl; have n00 := M4.out.cell 0 0 rfl rfl; have n01 := M4.out.cell 0 1 rfl rfl; have n02 := M4.out.cell 0 2 rfl rfl; have n03 := M4.out.cell 0 3 rfl rfl; have n04 := M4.out.cell 0 4 rfl rfl; have nf00 := M4.out.free 0 0 rfl; have nf01 := M4.out.free 0 1 rfl; have nf02 := M4.out.free 0 2 rfl; have nf03 := M4.out.free 0 3 rfl; have nf04 := M4.out.free 0 4 rfl; have n10 := M4.out.cell 1 0 rfl rfl; have n11 := M4.out.cell 1 1 rfl rfl; have nf10 := M4.out.free 1 0 rfl; have nf11 := M4.out.free 1 1 rfl) | (have M4 := Lib.hid ((((M3.out.alloc _ _).alloc _ _).drew).grown g4.out); (try simp only [size_alloc] at M4); have b0 := M4.out.lt 0 rfl; have b1 := M4.out.lt 1 rfl; have sa0 := M4.out.cell 2 0 rfl rfl; have sa1 := M4.out.cell 2 1 rfl rfl; have sa2 := M4.out.cell 2 2 rfl rfl; have sa3 := M4.out.cell 2 3 rfl rfl; have sa4 := M4.out.cell 2 4 rfl rfl; have oa0 := M4.out.cell 3 0 rfl rfl; have oa1 := M4.out.cell 3 1 rfl rfl; have oa2 := M4.out.cell 3 2 rfl rfl; have oa3 := M4.out.cell 3 3 rfl rfl; have oa4 := M4.out.cell 3 4 rfl rfl; have ma0 := M4.out.cell 4 0 rfl rfl; have ma1 := M4.out.cell 4 1 rfl rfl; have ma2 := M4.out.cell 4 2 rfl rfl; have ma3 := M4.out.cell 4 3 rfl rfl; have ma4 := M4.out.cell 4 4 rfl rfl; have n00 := M4.out.cell 0 0 rfl rfl; have n01 := M4.out.cell 0 1 rfl rfl; have nf00 := M4.out.free 0 0 rfl; have nf01 := M4.out.free 0 1 rfl; have n10 := M4.out.cell 1 0 rfl rfl; have n11 := M4.out.cell 1 1 rfl rfl; have n12 := M4.out.cell 1 2 rfl rfl; have n13 := M4.out.cell 1 3 rfl rfl; have n14 := M4.out.cell 1 4 rfl rfl; have nf10 := M4.out.free 1 0 rfl; have nf11 := M4.out.free 1 1 rfl; have nf12 := M4.out.free 1 2 rfl; have nf13 := M4.out.free 1 3 rfl; have nf14 := M4.out.free 1 4 rfl) | (have M4 := Lib.hid (((M3.out.alloc _ _).drew).grown g4.out); (try simp only [size_alloc] at M4); have b0 := M4.out.lt 0 rfl; have sa0 := M4.out.cell 1 0 rfl rfl; have sa1 := M4.out.cell 1 1 rfl rfl; have sa2 := M4.out.cell 1 2 rfl rfl; have sa3 := M4.out.cell 1 3 rfl rfl; have sa4 := M4.out.cell 1 4 rfl rfl; have oa0 := M4.out.cell 2 0 rfl rfl; have oa1 := M4.out.cell 2 1 rfl rfl; have oa2 := M4.out.cell 2 2 rfl rfl; have oa3 := M4.out.cell 2 3 rfl rfl; have oa4 := M4.out.cell 2 4 rfl rfl; have ma0 := M4.out.cell 3 0 rfl rfl; have ma1 := M4.out.cell 3 1 rfl rfl; have ma2 := M4.out.cell 3 2 rfl rfl; have ma3 := M4.out.cell 3 3 rfl rfl; have ma4 := M4.out.cell 3 4 rfl rfl; have n00 := M4.out.cell 0 0 rfl rfl; have n01 := M4.out.cell 0 1 rfl rfl; have n02 := M4.out.cell 0 2 rfl rfl; have n03 := M4.out.cell 0 3 rfl rfl; have n04 := M4.out.cell 0 4 rfl rfl; have nf00 := M4.out.free 0 0 rfl; have nf01 := M4.out.free 0 1 rfl; have nf02 := M4.out.free 0 2 rfl; have nf03 := M4.out.free 0 3 rfl; have nf04 := M4.out.free 0 4 rfl) | (have M4 := Lib.hid (((M3.out.alloc _ _).drew).grown g4.out); (try simp only [size_alloc] at M4); have b0 := M4.out.lt 0 rfl; have sa0 := M4.out.cell 1 0 rfl rfl; have sa1 := M4.out.cell 1 1 rfl rfl; have sa2 := M4.out.cell 1 2 rfl rfl; have sa3 := M4.out.cell 1 3 rfl rfl; have sa4 := M4.out.cell 1 4 rfl rfl; have oa0 := M4.out.cell 2 0 rfl rfl; have oa1 := M4.out.cell 2 1 rfl rfl; have oa2 := M4.out.cell 2 2 rfl rfl; have oa3 := M4.out.cell 2 3 rfl rfl; have oa4 := M4.out.cell 2 4 rfl rfl; have ma0 := M4.out.cell 3 0 rfl rfl; have ma1 := M4.out.cell 3 1 rfl rfl; have ma2 := M4.out.cell 3 2 rfl rfl; have ma3 := M4.out.cell 3 3 rfl rfl; have ma4 := M4.out.cell 3 4 rfl rfl; have n00 := M4.out.cell 0 0 rfl rfl; have n01 := M4.out.cell 0 1 rfl rfl; have nf00 := M4.out.free 0 0 rfl; have nf01 := M4.out.free 0 1 rfl) | (have M4 := Lib.hid ((M3.out.drew).grown g4.out); have sa0 := M4.out.cell 0 0 rfl rfl; have sa1 := M4.out.cell 0 1 rfl rfl; have sa2 := M4.out.cell 0 2 rfl rfl; have sa3 := M4.out.cell 0 3 rfl rfl; have sa4 := M4.out.cell 0 4 rfl rfl; have oa0 := M4.out.cell 1 0 rfl rfl; have oa1 := M4.out.cell 1 1 rfl rfl; have oa2 := M4.out.cell 1 2 rfl rfl; have oa3 := M4.out.cell 1 3 rfl rfl; have oa4 := M4.out.cell 1 4 rfl rfl; have ma0 := M4.out.cell 2 0 rfl rfl; have ma1 := M4.out.cell 2 1 rfl rfl; have ma2 := M4.out.cell 2 2 rfl rfl; have ma3 := M4.out.cell 2 3 rfl rfl; have ma4 := M4.out.cell 2 4 rfl rfl)); have hea : v4.cell? ⟨b2, off2 + k, none⟩ = some (.int .i64 (z2 k)) := M4.out.old (Hz.out k hlt).1; have ea1 := World.new_ne v4 _ sa0; have ea2 := World.new_ne v4 _ oa0; have ea3 := World.new_ne v4 _ ma0; have ea4 := World.new_ne v4 _ hea))
        all_goals go_wp2
        all_goals go_meet
        all_goals refine ⟨_, _, rfl, rfl, ?_⟩
        · exact (by simpa only [size_alloc] using (M4.out.alloc 28 _).alloc 23 _)
        · exact (by simpa only [size_alloc] using ((M4.out.alloc 23 _).alloc 28 _).swap)
        · exact (by simpa only [size_alloc, size_setCell, List.set_cons_zero, List.set_cons_succ] using Own.alloc ((M4.out.set 0 0 (.int .i64 K) rfl).set 0 1 (.int .i64 N) rfl) 23 _)
        · exact (by simpa only [size_alloc, size_setCell, List.set_cons_zero, List.set_cons_succ] using ((((((((M4.out.set 1 0 (.int .i64 K) rfl).set 1 1 (.int .i64 N) rfl)).set 0 0 (.int .i64 i) rfl).set 0 1 (.int .i64 ((k : Int) + 1)) rfl).set 0 2 (.int .i64 Y) rfl).set 0 3 (.int .i64 q) rfl).set 0 4 (.int .i64 0) rfl))
        · exact (by simpa only [size_alloc, size_setCell, List.set_cons_zero, List.set_cons_succ] using (Own.alloc (((((M4.out.set 0 0 (.int .i64 i) rfl).set 0 1 (.int .i64 ((k : Int) + 1)) rfl).set 0 2 (.int .i64 Y) rfl).set 0 3 (.int .i64 q) rfl).set 0 4 (.int .i64 0) rfl) 28 _).swap)
        · exact (by simpa only [size_alloc, size_setCell, List.set_cons_zero, List.set_cons_succ] using Own.swap ((((((((M4.out.set 0 0 (.int .i64 K) rfl).set 0 1 (.int .i64 N) rfl)).set 1 0 (.int .i64 i) rfl).set 1 1 (.int .i64 ((k : Int) + 1)) rfl).set 1 2 (.int .i64 Y) rfl).set 1 3 (.int .i64 q) rfl).set 1 4 (.int .i64 0) rfl))
      case rest =>
        obtain ⟨db, xb, rfl, rfl, M0⟩ := hcut
        have M5 := Lib.hid M0
        clear M0 M3 he hwf hb3 HD
        rcases HC.out with ⟨c1, rfl, rfl⟩ | ⟨c1, c2, rfl, rfl⟩ | ⟨c1, c2, rfl, rfl⟩ | ⟨c1, c2, rfl, rfl⟩
        · clear HC
          have d1 : decide (st ≤ ms) = false := by simp; omega
          clear c1
          have d0 := M5.out.cell 1 0 rfl rfl; have d1 := M5.out.cell 1 1 rfl rfl
          have x0 := M5.out.cell 0 0 rfl rfl; have x1 := M5.out.cell 0 1 rfl rfl; have x2 := M5.out.cell 0 2 rfl rfl; have x3 := M5.out.cell 0 3 rfl rfl; have x4 := M5.out.cell 0 4 rfl rfl
          have o0 := M5.out.cell 3 0 rfl rfl; have o1 := M5.out.cell 3 1 rfl rfl; have o2 := M5.out.cell 3 2 rfl rfl; have o3 := M5.out.cell 3 3 rfl rfl; have o4 := M5.out.cell 3 4 rfl rfl
          have m0 := M5.out.cell 4 0 rfl rfl; have m1 := M5.out.cell 4 1 rfl rfl; have m2 := M5.out.cell 4 2 rfl rfl; have m3 := M5.out.cell 4 3 rfl rfl; have m4 := M5.out.cell 4 4 rfl rfl
          go_wp2_with fail
          refine (ok_true _ _ (1 + a3 % 64) Hok.out _).mono ?_
          rintro e v6 ⟨rfl, g6⟩
          have M6 := Lib.hid (M5.out.grown g6.out)
          clear d0 d1 x0 x1 x2 x3 x4 o0 o1 o2 o3 o4 m0 m1 m2 m3 m4 M5 g6
          have d0 := M6.out.cell 1 0 rfl rfl; have d1 := M6.out.cell 1 1 rfl rfl
          have x0 := M6.out.cell 0 0 rfl rfl; have x1 := M6.out.cell 0 1 rfl rfl; have x2 := M6.out.cell 0 2 rfl rfl; have x3 := M6.out.cell 0 3 rfl rfl; have x4 := M6.out.cell 0 4 rfl rfl
          have o0 := M6.out.cell 3 0 rfl rfl; have o1 := M6.out.cell 3 1 rfl rfl; have o2 := M6.out.cell 3 2 rfl rfl; have o3 := M6.out.cell 3 3 rfl rfl; have o4 := M6.out.cell 3 4 rfl rfl
          have m0 := M6.out.cell 4 0 rfl rfl; have m1 := M6.out.cell 4 1 rfl rfl; have m2 := M6.out.cell 4 2 rfl rfl; have m3 := M6.out.cell 4 3 rfl rfl; have m4 := M6.out.cell 4 4 rfl rfl
          have s0 := M6.out.cell 2 0 rfl rfl; have s1 := M6.out.cell 2 1 rfl rfl; have s2 := M6.out.cell 2 2 rfl rfl; have s3 := M6.out.cell 2 3 rfl rfl; have s4 := M6.out.cell 2 4 rfl rfl
          have sf0 := M6.out.free 2 0 rfl; have sf1 := M6.out.free 2 1 rfl; have sf2 := M6.out.free 2 2 rfl; have sf3 := M6.out.free 2 3 rfl; have sf4 := M6.out.free 2 4 rfl
          have hxs := M6.out.ne' 0 2 rfl rfl (by decide)
          go_wp2
          go_roundw
          case rel => exact ⟨k + 1, i, q, by omega, by go_num, fun h => by omega, fun _ => ⟨rfl, rfl⟩, by rw [HY.out]; exact (((((M6.out.set 2 0 (.int .i64 i) rfl).set 2 1 (.int .i64 ((k : Int) + 1)) rfl).set 2 2 (.int .i64 1) rfl).set 2 3 (.int .i64 q) rfl).set 2 4 (.int .i64 0) rfl).drop (List.Sublist.cons _ (List.Sublist.cons _ (List.Sublist.refl _)))⟩
          case measure => simp [intOf]; omega
        · clear HC
          have d1 : decide (st ≤ ms) = true := by simp; omega
          have d2 : decide ((k : Int) < 3) = true := by simp; omega
          have d4 : decide (3 < (k : Int)) = false := by simp; omega
          clear c1
          have d0 := M5.out.cell 1 0 rfl rfl; have d1 := M5.out.cell 1 1 rfl rfl
          have x0 := M5.out.cell 0 0 rfl rfl; have x1 := M5.out.cell 0 1 rfl rfl; have x2 := M5.out.cell 0 2 rfl rfl; have x3 := M5.out.cell 0 3 rfl rfl; have x4 := M5.out.cell 0 4 rfl rfl
          have o0 := M5.out.cell 3 0 rfl rfl; have o1 := M5.out.cell 3 1 rfl rfl; have o2 := M5.out.cell 3 2 rfl rfl; have o3 := M5.out.cell 3 3 rfl rfl; have o4 := M5.out.cell 3 4 rfl rfl
          have m0 := M5.out.cell 4 0 rfl rfl; have m1 := M5.out.cell 4 1 rfl rfl; have m2 := M5.out.cell 4 2 rfl rfl; have m3 := M5.out.cell 4 3 rfl rfl; have m4 := M5.out.cell 4 4 rfl rfl
          go_wp2_with fail
          refine (ok_true _ _ (1 + a3 % 64) Hok.out _).mono ?_
          rintro e v6 ⟨rfl, g6⟩
          have M6 := Lib.hid (M5.out.grown g6.out)
          clear d0 d1 x0 x1 x2 x3 x4 o0 o1 o2 o3 o4 m0 m1 m2 m3 m4 M5 g6
          have d0 := M6.out.cell 1 0 rfl rfl; have d1 := M6.out.cell 1 1 rfl rfl
          have x0 := M6.out.cell 0 0 rfl rfl; have x1 := M6.out.cell 0 1 rfl rfl; have x2 := M6.out.cell 0 2 rfl rfl; have x3 := M6.out.cell 0 3 rfl rfl; have x4 := M6.out.cell 0 4 rfl rfl
          have o0 := M6.out.cell 3 0 rfl rfl; have o1 := M6.out.cell 3 1 rfl rfl; have o2 := M6.out.cell 3 2 rfl rfl; have o3 := M6.out.cell 3 3 rfl rfl; have o4 := M6.out.cell 3 4 rfl rfl
          have m0 := M6.out.cell 4 0 rfl rfl; have m1 := M6.out.cell 4 1 rfl rfl; have m2 := M6.out.cell 4 2 rfl rfl; have m3 := M6.out.cell 4 3 rfl rfl; have m4 := M6.out.cell 4 4 rfl rfl
          have s0 := M6.out.cell 2 0 rfl rfl; have s1 := M6.out.cell 2 1 rfl rfl; have s2 := M6.out.cell 2 2 rfl rfl; have s3 := M6.out.cell 2 3 rfl rfl; have s4 := M6.out.cell 2 4 rfl rfl
          have sf0 := M6.out.free 2 0 rfl; have sf1 := M6.out.free 2 1 rfl; have sf2 := M6.out.free 2 2 rfl; have sf3 := M6.out.free 2 3 rfl; have sf4 := M6.out.free 2 4 rfl
          have hxs := M6.out.ne' 0 2 rfl rfl (by decide)
          go_wp2
          go_roundw
          case rel => exact ⟨k + 1, i, q, by omega, by go_num, fun h => by omega, fun _ => ⟨rfl, rfl⟩, by rw [HY.out]; exact (((((M6.out.set 2 0 (.int .i64 i) rfl).set 2 1 (.int .i64 ((k : Int) + 1)) rfl).set 2 2 (.int .i64 1) rfl).set 2 3 (.int .i64 q) rfl).set 2 4 (.int .i64 0) rfl).drop (List.Sublist.cons _ (List.Sublist.cons _ (List.Sublist.refl _)))⟩
          case measure => simp [intOf]; omega
        · clear HC
          have d1 : decide (st ≤ ms) = true := by simp; omega
          have d2 : decide ((k : Int) < 3) = false := by simp; omega
          have d3 : ((k : Int) == 3) = true := by simp; omega
          have d4 : decide (3 < (k : Int)) = false := by simp; omega
          have c2 := Lib.hid c2
          clear c1
          have d0 := M5.out.cell 1 0 rfl rfl; have d1 := M5.out.cell 1 1 rfl rfl
          have x0 := M5.out.cell 0 0 rfl rfl; have x1 := M5.out.cell 0 1 rfl rfl; have x2 := M5.out.cell 0 2 rfl rfl; have x3 := M5.out.cell 0 3 rfl rfl; have x4 := M5.out.cell 0 4 rfl rfl
          have o0 := M5.out.cell 3 0 rfl rfl; have o1 := M5.out.cell 3 1 rfl rfl; have o2 := M5.out.cell 3 2 rfl rfl; have o3 := M5.out.cell 3 3 rfl rfl; have o4 := M5.out.cell 3 4 rfl rfl
          have m0 := M5.out.cell 4 0 rfl rfl; have m1 := M5.out.cell 4 1 rfl rfl; have m2 := M5.out.cell 4 2 rfl rfl; have m3 := M5.out.cell 4 3 rfl rfl; have m4 := M5.out.cell 4 4 rfl rfl
          go_wp2_with fail
          refine (ok_true _ _ (1 + a3 % 64) Hok.out _).mono ?_
          rintro e v6 ⟨rfl, g6⟩
          have M6 := Lib.hid (M5.out.grown g6.out)
          clear d0 d1 x0 x1 x2 x3 x4 o0 o1 o2 o3 o4 m0 m1 m2 m3 m4 M5 g6
          have d0 := M6.out.cell 1 0 rfl rfl; have d1 := M6.out.cell 1 1 rfl rfl
          have x0 := M6.out.cell 0 0 rfl rfl; have x1 := M6.out.cell 0 1 rfl rfl; have x2 := M6.out.cell 0 2 rfl rfl; have x3 := M6.out.cell 0 3 rfl rfl; have x4 := M6.out.cell 0 4 rfl rfl
          have o0 := M6.out.cell 3 0 rfl rfl; have o1 := M6.out.cell 3 1 rfl rfl; have o2 := M6.out.cell 3 2 rfl rfl; have o3 := M6.out.cell 3 3 rfl rfl; have o4 := M6.out.cell 3 4 rfl rfl
          have m0 := M6.out.cell 4 0 rfl rfl; have m1 := M6.out.cell 4 1 rfl rfl; have m2 := M6.out.cell 4 2 rfl rfl; have m3 := M6.out.cell 4 3 rfl rfl; have m4 := M6.out.cell 4 4 rfl rfl
          have s0 := M6.out.cell 2 0 rfl rfl; have s1 := M6.out.cell 2 1 rfl rfl; have s2 := M6.out.cell 2 2 rfl rfl; have s3 := M6.out.cell 2 3 rfl rfl; have s4 := M6.out.cell 2 4 rfl rfl
          have sf0 := M6.out.free 2 0 rfl; have sf1 := M6.out.free 2 1 rfl; have sf2 := M6.out.free 2 2 rfl; have sf3 := M6.out.free 2 3 rfl; have sf4 := M6.out.free 2 4 rfl
          have hxs := M6.out.ne' 0 2 rfl rfl (by decide)
          go_wp2
          go_roundw
          case rel => exact ⟨4, i, q, by have := c2.out; omega, rfl, fun h => by omega, fun _ => ⟨rfl, rfl⟩, by rw [show yAt ms st true 4 = 1 from by have := HY.out; rw [c2.out] at this; exact this]; exact (((((M6.out.set 2 0 (.int .i64 i) rfl).set 2 1 (.int .i64 4) rfl).set 2 2 (.int .i64 1) rfl).set 2 3 (.int .i64 q) rfl).set 2 4 (.int .i64 0) rfl).drop (List.Sublist.cons _ (List.Sublist.cons _ (List.Sublist.refl _)))⟩
          case measure => have := c2.out; simp [intOf]; omega
        · clear HC
          have d1 : decide (st ≤ ms) = true := by simp; omega
          have d2 : decide ((k : Int) < 3) = false := by simp; omega
          have d3 : ((k : Int) == 3) = false := by simp; omega
          have d4 : decide (3 < (k : Int)) = true := by simp; omega
          clear c1
          have d0 := M5.out.cell 1 0 rfl rfl; have d1 := M5.out.cell 1 1 rfl rfl
          have x0 := M5.out.cell 0 0 rfl rfl; have x1 := M5.out.cell 0 1 rfl rfl; have x2 := M5.out.cell 0 2 rfl rfl; have x3 := M5.out.cell 0 3 rfl rfl; have x4 := M5.out.cell 0 4 rfl rfl
          have o0 := M5.out.cell 3 0 rfl rfl; have o1 := M5.out.cell 3 1 rfl rfl; have o2 := M5.out.cell 3 2 rfl rfl; have o3 := M5.out.cell 3 3 rfl rfl; have o4 := M5.out.cell 3 4 rfl rfl
          have m0 := M5.out.cell 4 0 rfl rfl; have m1 := M5.out.cell 4 1 rfl rfl; have m2 := M5.out.cell 4 2 rfl rfl; have m3 := M5.out.cell 4 3 rfl rfl; have m4 := M5.out.cell 4 4 rfl rfl
          go_wp2_with fail
          refine (ok_true _ _ (1 + a3 % 64) Hok.out _).mono ?_
          rintro e v6 ⟨rfl, g6⟩
          have M6 := Lib.hid (M5.out.grown g6.out)
          clear d0 d1 x0 x1 x2 x3 x4 o0 o1 o2 o3 o4 m0 m1 m2 m3 m4 M5 g6
          have d0 := M6.out.cell 1 0 rfl rfl; have d1 := M6.out.cell 1 1 rfl rfl
          have x0 := M6.out.cell 0 0 rfl rfl; have x1 := M6.out.cell 0 1 rfl rfl; have x2 := M6.out.cell 0 2 rfl rfl; have x3 := M6.out.cell 0 3 rfl rfl; have x4 := M6.out.cell 0 4 rfl rfl
          have o0 := M6.out.cell 3 0 rfl rfl; have o1 := M6.out.cell 3 1 rfl rfl; have o2 := M6.out.cell 3 2 rfl rfl; have o3 := M6.out.cell 3 3 rfl rfl; have o4 := M6.out.cell 3 4 rfl rfl
          have m0 := M6.out.cell 4 0 rfl rfl; have m1 := M6.out.cell 4 1 rfl rfl; have m2 := M6.out.cell 4 2 rfl rfl; have m3 := M6.out.cell 4 3 rfl rfl; have m4 := M6.out.cell 4 4 rfl rfl
          have s0 := M6.out.cell 2 0 rfl rfl; have s1 := M6.out.cell 2 1 rfl rfl; have s2 := M6.out.cell 2 2 rfl rfl; have s3 := M6.out.cell 2 3 rfl rfl; have s4 := M6.out.cell 2 4 rfl rfl
          have sf0 := M6.out.free 2 0 rfl; have sf1 := M6.out.free 2 1 rfl; have sf2 := M6.out.free 2 2 rfl; have sf3 := M6.out.free 2 3 rfl; have sf4 := M6.out.free 2 4 rfl
          have hxs := M6.out.ne' 0 2 rfl rfl (by decide)
          go_wp2
          go_roundw
          case rel => exact ⟨k + 1, i, q, by omega, by go_num, fun h => by omega, fun _ => ⟨rfl, rfl⟩, by rw [HY.out]; exact (((((M6.out.set 2 0 (.int .i64 i) rfl).set 2 1 (.int .i64 ((k : Int) + 1)) rfl).set 2 2 (.int .i64 1) rfl).set 2 3 (.int .i64 q) rfl).set 2 4 (.int .i64 0) rfl).drop (List.Sublist.cons _ (List.Sublist.cons _ (List.Sublist.refl _)))⟩
          case measure => simp [intOf]; omega
    · go_wp2_with fail
      refine (marks_any _).mono ?_
      rintro e v6 ⟨rfl, g6⟩
      go_wp2
      go_ret
      exact ⟨rfl, (M3.out.grown g6.out).below⟩


theorem walk (z0 : Nat → Int) (y0 : Nat → Bool) (z1 : Nat → Int) (y1 : Nat → Bool) (a2 : Option Addr) (len2 cap2 : Nat) (z2 : Nat → Int) (a3 : Int) (a4 : Bool) (w : World) (w0 : ∀ i, i < 5 → (Lit.int .i64 (z0 i)).wf = true) (w1 : ∀ i, i < 5 → (Lit.int .i64 (z1 i)).wf = true) (w2 : IsRow .i64 w a2 len2 cap2 z2) (w3 : (Lit.int .u8 a3).wf = true) :
    Calls Try.prog 4 #[.agg #[.int .i64 (z0 0), .int .i64 (z0 1), .int .i64 (z0 2), .int .i64 (z0 3), .bool (y0 4)], .agg #[.int .i64 (z1 0), .int .i64 (z1 1), .int .i64 (z1 2), .int .i64 (z1 3), .bool (y1 4)], .slice a2 len2 cap2, .int .u8 a3, .bool a4] w fun e w' => e = .returned (.bool true) ∧ Below w.heap.size w w' := by
  have := bounds_u8 w3
  by_cases h : 20 < (len2 : Int) ∨ z1 0 < 0
  · exact walk_out _ _ _ _ _ _ _ _ _ _ _ _ _ _ _ w h
  · cases a4
    · exact walk_no _ _ _ _ _ _ _ _ _ _ _ _ _ z2 _ w w2 (by omega) (by omega) (by omega) (by omega)
    · exact walk_yes _ _ _ _ _ _ _ _ _ _ _ _ _ z2 _ w w2 (by omega) (by omega) (by omega) (by omega)

theorem own : ownKnob Try.prog.godebug = none := by kernel_rfl
theorem laidOut : laidOutB Try.prog = true := by kernel_rfl

/-! ### THE ROW's STEP, as the guide has it -/
set_option maxRecDepth 100000 in
theorem lifted (os : Os) (started : os.Started) (H : Type) (enc : TypeId × Value → H) :
    ReturnsInHanded {} Try.checked os 4 .any (Rows.stampEndsSpec.pre6 enc Try.prog Try.f4 Rows.stampEndsRow.domain false) (Rows.stampEndsSpec.post enc Try.prog Try.f4 false true false false) := by
  refine returnsInHanded_of_change (C := Try.checked) own started (by kernel_rfl) Try.func4
    (ChangeSpec.witness6 (enc := enc) (C := Try.checked) false ⟨#[], #[.agg #[.int .i64 0, .int .i64 0, .int .i64 0, .int .i64 0, .bool false], .agg #[.int .i64 0, .int .i64 0, .int .i64 0, .int .i64 0, .bool false], .slice none 0 0, .int .u8 0, .bool false], []⟩ 8 (by kernel_rfl) (by kernel_rfl) (by kernel_rfl) (by kernel_rfl)) ?_
  intro W base args ds gs before hval0 hW hcnd _
  have hval : ∀ (j : Nat) t v, Try.f4.params[j]? = some t → args[j]? = some v → Value.okWide Try.prog W .any base t v := hval0
  have hW' := hW
  obtain ⟨p, q, hA0, hV, rfl, hfz, hnd⟩ := hW
  have hA : DataW.TrodAll enc Try.prog W 0 (fun _ => true) true Try.f4.params.toList args.toList ds p := hA0
  rw [Try.params4] at hA hval
  obtain ⟨v0, vs0, d0, ds0, p0, q0, hargs, rfl, rfl, h0, r0⟩ := trodAll_cons hA
  obtain ⟨v1, vs1, d1, ds1, p1, q1, rfl, rfl, rfl, h1, r1⟩ := trodAll_cons r0
  obtain ⟨v2, vs2, d2, ds2, p2, q2, rfl, rfl, rfl, h2, r2⟩ := trodAll_cons r1
  obtain ⟨v3, vs3, d3, ds3, p3, q3, rfl, rfl, rfl, h3, r3⟩ := trodAll_cons r2
  obtain ⟨v4, vs4, d4, ds4, p4, q4, rfl, rfl, rfl, h4, r4⟩ := trodAll_cons r3
  obtain ⟨rfl, rfl, rfl⟩ := trodAll_nil r4
  obtain rfl : args = #[v0, v1, v2, v3, v4] := by cases args; simp_all
  obtain ⟨rfl, rfl⟩ := trodVars_none hV
  obtain ⟨cs0, rfl, sz0⟩ := okWide_struct Try.underlying25 (hval 0 25 v0 rfl rfl)
  have k0 := h0
  have lt0 : ∀ x ∈ p0, x.block < W.heap.size := by obtain ⟨m, hm⟩ := k0; exact DataW.trod_lt m _ _ _ hm
  obtain ⟨z0, y0, w0, rfl⟩ : ∃ (z : Nat → Int) (y : Nat → Bool), (∀ i, i < 5 → (Lit.int .i64 (z i)).wf = true) ∧ cs0 = ⟨(List.range 5).map (mixed (fun j => j == 4) z y)⟩ := by
    obtain ⟨fuel, hf⟩ := h0
    exact isMix_of (fun j => j == 4) Try.underlying25 Try.underlying3 Try.underlying4 (by kernel_rfl) (by kernel_rfl) (sz0.trans (by kernel_rfl)) (by decide) hf
  obtain ⟨cs1, rfl, sz1⟩ := okWide_struct Try.underlying25 (hval 1 25 v1 rfl rfl)
  have k1 := h1
  have lt1 : ∀ x ∈ p1, x.block < W.heap.size := by obtain ⟨m, hm⟩ := k1; exact DataW.trod_lt m _ _ _ hm
  obtain ⟨z1, y1, w1, rfl⟩ : ∃ (z : Nat → Int) (y : Nat → Bool), (∀ i, i < 5 → (Lit.int .i64 (z i)).wf = true) ∧ cs1 = ⟨(List.range 5).map (mixed (fun j => j == 4) z y)⟩ := by
    obtain ⟨fuel, hf⟩ := h1
    exact isMix_of (fun j => j == 4) Try.underlying25 Try.underlying3 Try.underlying4 (by kernel_rfl) (by kernel_rfl) (sz1.trans (by kernel_rfl)) (by decide) hf
  obtain ⟨a2, len2, cap2, rfl⟩ := okWide_slice Try.underlying41 (hval 2 41 v2 rfl rfl)
  have k2 := h2
  have lt2 : ∀ x ∈ p2, x.block < W.heap.size := by obtain ⟨m, hm⟩ := k2; exact DataW.trod_lt m _ _ _ hm
  obtain ⟨z2, w2⟩ : ∃ z, IsRow .i64 W a2 len2 cap2 z := by
    obtain ⟨fuel, hf⟩ := h2
    exact isRow_of Try.underlying41 Try.underlying3 (by kernel_rfl) hf
  obtain ⟨a3, rfl, rfl, rfl, w3⟩ := open_int Try.underlying5 (hval 3 5 v3 rfl rfl) h3
  obtain ⟨a4, rfl, rfl, rfl⟩ := open_bool Try.underlying4 (hval 4 4 v4 rfl rfl) h4
  clear hA0 hval0
  refine (walk z0 y0 z1 y1 a2 len2 cap2 z2 a3 a4 W w0 w1 w2 w3).mono fun e W' ⟨he, bel⟩ => ?_
  subst he
  exact ⟨_, rfl, _, _, _, [], _, [], hW', trodAll_mk1 (shut_bool Try.underlying4 _), (trodAll_cons_mk (Below.trod laidOut (by kernel_rfl) (of_decide_eq_true (by kernel_rfl)) k0 bel lt0) (trodAll_cons_mk (Below.trod laidOut (by kernel_rfl) (of_decide_eq_true (by kernel_rfl)) k1 bel lt1) (trodAll_cons_mk (Below.trod laidOut (by kernel_rfl) (of_decide_eq_true (by kernel_rfl)) k2 bel lt2) (trodAll_cons_mk (shut_int Try.underlying5 w3) (trodAll_cons_mk (shut_bool Try.underlying4 _) trodAll_mk0))))), rfl, bel.frame _, fun h => by cases h⟩

theorem over : Rows.stampEndsRow.holds Try.pinned (OpenSpec.ofChange Rows.stampEndsSpec) :=
  OpenClaim.holds_of_wide 4 Try.f4 rfl rfl rfl rfl rfl rfl rfl ⟨rfl, rfl, rfl, rfl, rfl⟩ rfl rfl rfl rfl rfl (by kernel_rfl) Try.func4 (by kernel_rfl)
    (of_decide_eq_true (by kernel_rfl)) (by unfold Func.isWrapper; first | (rw [if_pos (by decide +kernel)]; kernel_rfl) | (rw [if_neg (by decide +kernel)]; exact ⟨rfl, rfl⟩))
    (fun os started H enc _ => lifted os started H enc)

theorem proved : Rows.StampEndsSaid := over
#print axioms proved
end Go.Proofs.Ytppbbdpdfaemfaa.stampEnds
