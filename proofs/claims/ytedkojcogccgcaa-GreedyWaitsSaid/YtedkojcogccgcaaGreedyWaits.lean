/-
  GreedyWaits: an elder foe that isn't waiting is aborted just behind wait + 1 looks at one and the same pulse, and never as long as its pulse goes on; for any two sides, any list of moves, and any wait.
  Conditions: none (of a list of more than 200 moves, of a foe of a number below 0, of one that is younger or waiting, and of a pulse beyond 1<<40 the law says nothing by itself).
-/
import Derived.Test.YtedkojcogccgcaaRows
import Derived.Test.YtedkojcogccgcaaOpen
import Derived.Test.YtedkojcogccgcaaOpenB
import Derived.Test.YtedkojcogccgcaaGreedy
import Derived.Deep.CutRange
namespace Go.Proofs.Ytedkojcogccgcaa.greedyWaits
open Go.ChangeShapes Go.WideShapes Go.ChangeAt Go.RowKit Go.Proofs.Ytedkojcogccgcaa.base Go.Proofs.Ytedkojcogccgcaa.ch Go.Proofs.Ytedkojcogccgcaa.gre
set_option linter.unusedVariables false

/-- The state at the head of a round k: fresh, or it has met the foe k times, and looked s times at its pulse c. -/
def At (i : Int) (k : Nat) (c s : Int) (f t p l : Int) : Prop := (k = 0 ∧ f = -1 ∧ t = 0 ∧ p = 0 ∧ l = 0 ∧ s = 0) ∨ (k ≠ 0 ∧ f = i ∧ t = k ∧ p = c ∧ l = s)

/-- At the head of a round: k moves were made. -/
def Rel (w : World) (sb : Nat) (len : Nat) (mi ms mp mq : Int) (mb : Bool) (i st pr : Int) (b : Bool) (sv iv : Value) (wr : World) : Prop :=
  ∃ (k : Nat) (c s f t p l : Int), k ≤ len ∧ iv = .int .i64 k ∧ sv = .int .i64 s ∧ 0 ≤ s ∧ s ≤ k ∧ -9223372036854775808 ≤ c ∧ c ≤ 1099511627776 + k ∧ At i k c s f t p l ∧
    Own w wr [(sb, 23, [.int .i64 f, .int .i64 t, .int .i64 0, .int .i64 p, .int .i64 l]), (w.heap.size + 1, 25, [.int .i64 i, .int .i64 st, .int .i64 pr, .int .i64 c, .bool b]), (w.heap.size, 25, [.int .i64 mi, .int .i64 ms, .int .i64 mp, .int .i64 mq, .bool mb])]

/-- Behind the move: the foe's pulse is c, and this is the look number s at it. -/
def Moved (w : World) (sb : Nat) (k : Nat) (f t p l : Int) (mi ms mp mq : Int) (mb : Bool) (i st pr : Int) (b : Bool) (sv : Value) (wr : World) : Prop :=
  ∃ (c s : Int), sv = .int .i64 s ∧ 0 ≤ s ∧ s ≤ (k : Int) + 1 ∧ -9223372036854775808 ≤ c ∧ c ≤ 1099511627776 + k + 1 ∧ lL (mP f i p c) c (mL f i l) = s ∧
    Own w wr [(sb, 23, [.int .i64 f, .int .i64 t, .int .i64 0, .int .i64 p, .int .i64 l]), (w.heap.size + 1, 25, [.int .i64 i, .int .i64 st, .int .i64 pr, .int .i64 c, .bool b]), (w.heap.size, 25, [.int .i64 mi, .int .i64 ms, .int .i64 mp, .int .i64 mq, .bool mb])]

theorem at_tries (i : Int) (k : Nat) (c s f t p l : Int) (hi : 0 ≤ i) (hk : k ≤ 1000) (h : At i k c s f t p l) : mT f i t = (k : Int) + 1 ∧ -9223372036854775808 ≤ t ∧ (0 ≤ s → -9223372036854775808 ≤ l) := by
  rcases h with ⟨rfl, rfl, rfl, rfl, rfl, rfl⟩ | ⟨h, rfl, rfl, rfl, rfl⟩
  · unfold mT
    rw [if_neg (by omega)]
    exact ⟨rfl, by omega, fun _ => by omega⟩
  · unfold mT cnt
    rw [if_pos rfl]
    omega
theorem at_first (i : Int) (c s f t p l q : Int) (hi : 0 ≤ i) (h : At i 0 c s f t p l) : lL (mP f i p q) q (mL f i l) = 1 := by
  rcases h with ⟨_, rfl, rfl, rfl, rfl, rfl⟩ | ⟨h, _⟩
  · unfold mP mL
    rw [if_neg (by omega), if_neg (by omega)]
    unfold lL
    rw [if_pos rfl]
    rfl
  · exact absurd rfl h
theorem at_moves (i : Int) (k : Nat) (c s f t p l : Int) (hk : k ≠ 0) (h : At i k c s f t p l) : lL (mP f i p (c + 1)) (c + 1) (mL f i l) = 0 := by
  rcases h with ⟨h, _⟩ | ⟨h, rfl, rfl, rfl, rfl⟩
  · exact absurd h hk
  · unfold mP mL lL
    rw [if_pos rfl, if_neg (by omega)]
theorem at_stands (i : Int) (k : Nat) (c s f t p l : Int) (hk : k ≠ 0) (hs : s ≤ 1000) (h : At i k c s f t p l) : lL (mP f i p c) c (mL f i l) = s + 1 := by
  rcases h with ⟨h, _⟩ | ⟨h, rfl, rfl, rfl, rfl⟩
  · exact absurd h hk
  · unfold mP mL lL cnt
    rw [if_pos rfl, if_pos rfl, if_pos rfl]
    omega

theorem at_kind (ms st n s : Int) (h : ¬ ms < st) : (n < s ∧ dK ms st false n s = 1) ∨ (¬ n < s ∧ dK ms st false n s = 2) := by
  unfold dK
  by_cases e : n < s
  · exact .inl ⟨e, if_pos (.inr (.inr e))⟩
  · exact .inr ⟨e, if_neg (by simp [h, e])⟩

/-- One round's decision. -/
theorem decide_one (f t p l : Int) (k : Nat) (s : Int) (mi ms mp mq : Int) (mb : Bool) (i st pr c : Int) (d n : Int) (hT : mT f i t = (k : Int) + 1) (lo : -9223372036854775808 ≤ t) (lo2 : -9223372036854775808 ≤ l) (hL : lL (mP f i p c) c (mL f i l) = s) (hms : ¬ ms < st) (w : World) :
    Calls Try.prog 8 #[.agg #[], .agg #[.int .i64 f, .int .i64 t, .int .i64 0, .int .i64 p, .int .i64 l], .agg #[.int .i64 mi, .int .i64 ms, .int .i64 mp, .int .i64 mq, .bool mb], .agg #[.int .i64 i, .int .i64 st, .int .i64 pr, .int .i64 c, .bool false], .int .i64 d, .int .i64 n] w fun e w' => e = .returned (.tuple #[.agg #[.int .i64 (dK ms st false n s), .int .i64 (dN ms st false n s)], .agg #[.int .i64 i, .int .i64 ((k : Int) + 1), .int .i64 0, .int .i64 c, .int .i64 s]]) ∧ Hid (w.grownBy w' none) := by
  have D := decide_any f t 0 p l mi ms mp mq mb i st pr c false d n lo lo2 w
  rw [hT, hL, show dP ms st false (mP f i p c) c = c by unfold dP; rw [if_neg (by simp [hms])], show dL ms st false (mL f i l) s = s by unfold dL; rw [if_neg (by simp [hms])]] at D
  exact D

theorem walk_out (mi ms mp mq : Int) (mb : Bool) (i st pr q : Int) (b : Bool) (a2 : Option Addr) (len2 cap2 : Nat) (a3 : Int) (w : World) (h : 200 < (len2 : Int) ∨ i < 0 ∨ ms < st ∨ b = true ∨ 1099511627776 < q) :
    Calls Try.prog 4 #[.agg #[.int .i64 mi, .int .i64 ms, .int .i64 mp, .int .i64 mq, .bool mb], .agg #[.int .i64 i, .int .i64 st, .int .i64 pr, .int .i64 q, .bool b], .slice a2 len2 cap2, .int .u8 a3] w fun e w' => e = .returned (.bool true) ∧ Below w.heap.size w w' := by
  have h' : (200 < (len2 : Int)) ∨ (¬ 200 < (len2 : Int) ∧ i < 0) ∨ (¬ 200 < (len2 : Int) ∧ ¬ i < 0 ∧ ms < st) ∨ (¬ 200 < (len2 : Int) ∧ ¬ i < 0 ∧ ¬ ms < st ∧ b = true) ∨ (¬ 200 < (len2 : Int) ∧ ¬ i < 0 ∧ ¬ ms < st ∧ b = false ∧ 1099511627776 < q) := by cases b <;> simp at h ⊢ <;> omega
  clear h
  rcases h' with h1 | ⟨h1, h2⟩ | ⟨h1, h2, h3⟩ | ⟨h1, h2, h3, rfl⟩ | ⟨h1, h2, h3, rfl, h5⟩
  all_goals
    go_enter Try.func4, Try.ntmps4
    go_wp2_with fail
    refine (alive_any _).mono ?_
    rintro e v1 ⟨rfl, g1⟩
    have M1 := Lib.hid (((Own.start w).alloc _ _).alloc _ _ |>.grown g1.out)
    simp only [size_alloc] at M1
    have m0 := M1.out.cell 1 0 rfl rfl; have m1 := M1.out.cell 1 1 rfl rfl; have m2 := M1.out.cell 1 2 rfl rfl; have m3 := M1.out.cell 1 3 rfl rfl; have m4 := M1.out.cell 1 4 rfl rfl
    have o0 := M1.out.cell 0 0 rfl rfl; have o1 := M1.out.cell 0 1 rfl rfl; have o2 := M1.out.cell 0 2 rfl rfl; have o3 := M1.out.cell 0 3 rfl rfl; have o4 := M1.out.cell 0 4 rfl rfl
    go_wp2
    go_ret
    exact ⟨rfl, M1.out.below⟩

set_option maxRecDepth 100000 in
set_option maxHeartbeats 4000000 in
theorem walkIn (mi ms mp mq : Int) (mb : Bool) (i st pr q : Int) (a2 : Option Addr) (len2 cap2 : Nat) (z2 : Nat → Bool) (a3 : Int) (w : World) (w2 : IsBools w a2 len2 cap2 z2) (l3 : 0 ≤ a3) (u3 : a3 ≤ 255) (h : ¬ 200 < (len2 : Int)) (hi : ¬ i < 0) (hms : ¬ ms < st) (hq : ¬ 1099511627776 < q) (lq : -9223372036854775808 ≤ q) :
    Calls Try.prog 4 #[.agg #[.int .i64 mi, .int .i64 ms, .int .i64 mp, .int .i64 mq, .bool mb], .agg #[.int .i64 i, .int .i64 st, .int .i64 pr, .int .i64 q, .bool false], .slice a2 len2 cap2, .int .u8 a3] w fun e w' => e = .returned (.bool true) ∧ Below w.heap.size w w' := by
  have W2 := Lib.hid w2
  clear w2
  have hn := Lib.hid (show 0 ≤ a3 % 20 ∧ a3 % 20 < 20 by omega)
  go_enter Try.func4, Try.ntmps4
  go_wp2_with fail
  refine (alive_any _).mono ?_
  rintro e v1 ⟨rfl, g1⟩
  have M1 := Lib.hid (((Own.start w).alloc _ _).alloc _ _ |>.grown g1.out)
  simp only [size_alloc] at M1
  have o0 := M1.out.cell 0 0 rfl rfl; have o1 := M1.out.cell 0 1 rfl rfl; have o2 := M1.out.cell 0 2 rfl rfl; have o3 := M1.out.cell 0 3 rfl rfl; have o4 := M1.out.cell 0 4 rfl rfl
  have m0 := M1.out.cell 1 0 rfl rfl; have m1 := M1.out.cell 1 1 rfl rfl; have m2 := M1.out.cell 1 2 rfl rfl; have m3 := M1.out.cell 1 3 rfl rfl; have m4 := M1.out.cell 1 4 rfl rfl
  go_wp2_with fail
  refine (fresh_any _).mono ?_
  rintro e v2 ⟨rfl, g2⟩
  have M2 := Lib.hid ((M1.out.grown g2.out).alloc 23 [.int .i64 (-1), .int .i64 0, .int .i64 0, .int .i64 0, .int .i64 0])
  clear o0 o1 o2 o3 o4 m0 m1 m2 m3 m4 M1 g1 g2
  go_wp2
  generalize v2.heap.size = sb at *
  generalize v2.alloc (.cells #[.int .i64 (-1), .int .i64 0, .int .i64 0, .int .i64 0, .int .i64 0] 23) = v3 at *
  have M3 := M2
  have HMS := Lib.hid hms
  have HQ := Lib.hid hq
  clear hms hq
  go_loopw [11, 12] (fun sv iv wr => Rel w sb len2 mi ms mp mq mb i st pr false sv iv wr) (fun _ iv _ => (len2 - intOf iv).toNat)
  case atStart => exact ⟨0, q, 0, -1, 0, 0, 0, by omega, rfl, rfl, by omega, by omega, lq, by have := HQ.out; omega, .inl ⟨rfl, rfl, rfl, rfl, rfl, rfl⟩, M3.out⟩
  case round =>
    obtain ⟨k, c, s, f, t, p, l, hk, rfl, rfl, hs0, hs1, hc0, hc1, hat, M0⟩ := hrel
    have M3 := Lib.hid M0
    clear M0 M2
    by_cases hlt : k < len2
    · obtain ⟨_, _, hx | ⟨b2, off2, rfl, hb2, hz⟩⟩ := W2.out
      · exfalso; omega
      have he : wr.cell? ⟨b2, off2 + k, none⟩ = some (.bool (z2 k)) := M3.out.old (hz k hlt)
      have hlt' : (k : Int) < (len2 : Int) := by omega
      obtain ⟨hT, hlo, hlo2⟩ := at_tries i k c s f t p l (by omega) (by omega) hat
      have hlo2 := hlo2 hs0
      have HT := Lib.hid hT
      have HA := Lib.hid hat
      clear hT hat
      go_upto_if 53 with fail
      go_cut [11] from 46 to 91 (fun sv wx => Moved w sb k f t p l mi ms mp mq mb i st pr false sv wx)
      case first =>
        have o0 := M3.out.cell 1 0 rfl rfl; have o1 := M3.out.cell 1 1 rfl rfl; have o2 := M3.out.cell 1 2 rfl rfl; have o3 := M3.out.cell 1 3 rfl rfl; have o4 := M3.out.cell 1 4 rfl rfl
        have of0 := M3.out.free 1 0 rfl; have of1 := M3.out.free 1 1 rfl; have of2 := M3.out.free 1 2 rfl; have of3 := M3.out.free 1 3 rfl; have of4 := M3.out.free 1 4 rfl
        have hi' := Lib.hid hi
        by_cases hk0 : k = 0
        · subst hk0
          go_wp2
          go_meet
          exact ⟨c, 1, rfl, by omega, by omega, by omega, by omega, at_first i c s f t p l c (by have := hi'.out; omega) HA.out, M3.out⟩
        · have hk1 : ((k : Int) == 0) = false := by simp; omega
          have Hk := Lib.hid hk0
          clear hk0
          generalize z2 k = bb at *
          cases bb
          · go_wp2
            go_meet
            exact ⟨c, s + 1, by go_num, by omega, by omega, by omega, by omega, at_stands i k c s f t p l Hk.out (by omega) HA.out, M3.out⟩
          · go_wp2
            go_meet
            exact ⟨c + 1, 0, rfl, by omega, by omega, by omega, by omega, at_moves i k c s f t p l Hk.out HA.out, M3.out.set 1 3 (.int .i64 (c + 1)) rfl⟩
      case rest =>
        obtain ⟨cn, sn, rfl, hs2, hs3, hc2, hc3, hL, M0⟩ := hcut
        have M4 := Lib.hid M0
        have HD := Lib.hid (fun u => decide_one f t p l k sn mi ms mp mq mb i st pr cn 0 (1 + a3 % 20) HT.out hlo hlo2 hL (by have := HMS.out; omega) u)
        have Hok := Lib.hid (dOk ms st false (1 + a3 % 20) sn (by omega))
        have HC := Lib.hid (at_kind ms st (1 + a3 % 20) sn (by have := HMS.out; omega))
        clear M0 M3 he hL HA HT hs0 hs1 hc0 hc1
        generalize dN ms st false (1 + a3 % 20) sn = N at *
        generalize dK ms st false (1 + a3 % 20) sn = K at *
        have s0 := M4.out.cell 0 0 rfl rfl; have s1 := M4.out.cell 0 1 rfl rfl; have s2 := M4.out.cell 0 2 rfl rfl; have s3 := M4.out.cell 0 3 rfl rfl; have s4 := M4.out.cell 0 4 rfl rfl
        have o0 := M4.out.cell 1 0 rfl rfl; have o1 := M4.out.cell 1 1 rfl rfl; have o2 := M4.out.cell 1 2 rfl rfl; have o3 := M4.out.cell 1 3 rfl rfl; have o4 := M4.out.cell 1 4 rfl rfl
        have m0 := M4.out.cell 2 0 rfl rfl; have m1 := M4.out.cell 2 1 rfl rfl; have m2 := M4.out.cell 2 2 rfl rfl; have m3 := M4.out.cell 2 3 rfl rfl; have m4 := M4.out.cell 2 4 rfl rfl
        go_wp2_with fail
        refine (HD.out _).mono ?_
        rintro e v4 ⟨rfl, g4⟩
        clear s0 s1 s2 s3 s4 o0 o1 o2 o3 o4 m0 m1 m2 m3 m4
        have M5 := Lib.hid (((M4.out.grown g4.out).alloc 28 [.int .i64 K, .int .i64 N]).alloc 23 [.int .i64 i, .int .i64 ((k : Int) + 1), .int .i64 0, .int .i64 cn, .int .i64 sn])
        simp only [size_alloc] at M5
        clear g4 M4 HD
        rcases HC.out with ⟨c1, rfl⟩ | ⟨c1, rfl⟩
        · clear HC
          have d1 : decide (1 + a3 % 20 < sn) = true := by simp; omega
          clear c1
          have d0 := M5.out.cell 1 0 rfl rfl; have d1 := M5.out.cell 1 1 rfl rfl
          have x0 := M5.out.cell 0 0 rfl rfl; have x1 := M5.out.cell 0 1 rfl rfl; have x2 := M5.out.cell 0 2 rfl rfl; have x3 := M5.out.cell 0 3 rfl rfl; have x4 := M5.out.cell 0 4 rfl rfl
          go_wp2_with fail
          refine (ok_true _ _ (1 + a3 % 20) Hok.out _).mono ?_
          rintro e v6 ⟨rfl, g6⟩
          have M6 := Lib.hid (M5.out.grown g6.out)
          clear d0 d1 x0 x1 x2 x3 x4 M5 g6
          have d0 := M6.out.cell 1 0 rfl rfl; have d1 := M6.out.cell 1 1 rfl rfl
          have x0 := M6.out.cell 0 0 rfl rfl; have x1 := M6.out.cell 0 1 rfl rfl; have x2 := M6.out.cell 0 2 rfl rfl; have x3 := M6.out.cell 0 3 rfl rfl; have x4 := M6.out.cell 0 4 rfl rfl
          have s0 := M6.out.cell 2 0 rfl rfl; have s1 := M6.out.cell 2 1 rfl rfl; have s2 := M6.out.cell 2 2 rfl rfl; have s3 := M6.out.cell 2 3 rfl rfl; have s4 := M6.out.cell 2 4 rfl rfl
          have sf0 := M6.out.free 2 0 rfl; have sf1 := M6.out.free 2 1 rfl; have sf2 := M6.out.free 2 2 rfl; have sf3 := M6.out.free 2 3 rfl; have sf4 := M6.out.free 2 4 rfl
          have hxs := M6.out.ne' 0 2 rfl rfl (by decide)
          go_wp2
          go_roundw
          case rel => exact ⟨k + 1, cn, sn, i, (k : Int) + 1, cn, sn, by omega, by go_num, rfl, by omega, by omega, by omega, by omega, .inr ⟨by omega, rfl, by omega, rfl, rfl⟩, (((((M6.out.set 2 0 (.int .i64 i) rfl).set 2 1 (.int .i64 ((k : Int) + 1)) rfl).set 2 2 (.int .i64 0) rfl).set 2 3 (.int .i64 cn) rfl).set 2 4 (.int .i64 sn) rfl).drop (List.Sublist.cons _ (List.Sublist.cons _ (List.Sublist.refl _)))⟩
          case measure => simp [intOf]; omega
        · clear HC
          have d1 : decide (1 + a3 % 20 < sn) = false := by simp; omega
          clear c1
          have d0 := M5.out.cell 1 0 rfl rfl; have d1 := M5.out.cell 1 1 rfl rfl
          have x0 := M5.out.cell 0 0 rfl rfl; have x1 := M5.out.cell 0 1 rfl rfl; have x2 := M5.out.cell 0 2 rfl rfl; have x3 := M5.out.cell 0 3 rfl rfl; have x4 := M5.out.cell 0 4 rfl rfl
          go_wp2_with fail
          refine (ok_true _ _ (1 + a3 % 20) Hok.out _).mono ?_
          rintro e v6 ⟨rfl, g6⟩
          have M6 := Lib.hid (M5.out.grown g6.out)
          clear d0 d1 x0 x1 x2 x3 x4 M5 g6
          have d0 := M6.out.cell 1 0 rfl rfl; have d1 := M6.out.cell 1 1 rfl rfl
          have x0 := M6.out.cell 0 0 rfl rfl; have x1 := M6.out.cell 0 1 rfl rfl; have x2 := M6.out.cell 0 2 rfl rfl; have x3 := M6.out.cell 0 3 rfl rfl; have x4 := M6.out.cell 0 4 rfl rfl
          have s0 := M6.out.cell 2 0 rfl rfl; have s1 := M6.out.cell 2 1 rfl rfl; have s2 := M6.out.cell 2 2 rfl rfl; have s3 := M6.out.cell 2 3 rfl rfl; have s4 := M6.out.cell 2 4 rfl rfl
          have sf0 := M6.out.free 2 0 rfl; have sf1 := M6.out.free 2 1 rfl; have sf2 := M6.out.free 2 2 rfl; have sf3 := M6.out.free 2 3 rfl; have sf4 := M6.out.free 2 4 rfl
          have hxs := M6.out.ne' 0 2 rfl rfl (by decide)
          go_wp2
          go_roundw
          case rel => exact ⟨k + 1, cn, sn, i, (k : Int) + 1, cn, sn, by omega, by go_num, rfl, by omega, by omega, by omega, by omega, .inr ⟨by omega, rfl, by omega, rfl, rfl⟩, (((((M6.out.set 2 0 (.int .i64 i) rfl).set 2 1 (.int .i64 ((k : Int) + 1)) rfl).set 2 2 (.int .i64 0) rfl).set 2 3 (.int .i64 cn) rfl).set 2 4 (.int .i64 sn) rfl).drop (List.Sublist.cons _ (List.Sublist.cons _ (List.Sublist.refl _)))⟩
          case measure => simp [intOf]; omega
    · have hfd : ∀ u : World, (Instr.field 33 (.agg #[]) 0).run Try.prog u = .ok (.agg #[]) u := fun _ => by kernel_rfl
      go_wp2_with fail
      refine (marks_any _).mono ?_
      rintro e v6 ⟨rfl, g6⟩
      go_wp2
      go_ret
      exact ⟨rfl, (M3.out.grown g6.out).below⟩

theorem walk (z0 : Nat → Int) (y0 : Nat → Bool) (z1 : Nat → Int) (y1 : Nat → Bool) (a2 : Option Addr) (len2 cap2 : Nat) (z2 : Nat → Bool) (a3 : Int) (w : World) (w0 : ∀ i, i < 5 → (Lit.int .i64 (z0 i)).wf = true) (w1 : ∀ i, i < 5 → (Lit.int .i64 (z1 i)).wf = true) (w2 : IsBools w a2 len2 cap2 z2) (w3 : (Lit.int .u8 a3).wf = true) :
    Calls Try.prog 4 #[.agg #[.int .i64 (z0 0), .int .i64 (z0 1), .int .i64 (z0 2), .int .i64 (z0 3), .bool (y0 4)], .agg #[.int .i64 (z1 0), .int .i64 (z1 1), .int .i64 (z1 2), .int .i64 (z1 3), .bool (y1 4)], .slice a2 len2 cap2, .int .u8 a3] w fun e w' => e = .returned (.bool true) ∧ Below w.heap.size w w' := by
  have := bounds_u8 w3
  have := bounds_i64 (w1 3 (by omega))
  by_cases h : 200 < (len2 : Int) ∨ z1 0 < 0 ∨ z0 1 < z1 1 ∨ y1 4 = true ∨ 1099511627776 < z1 3
  · exact walk_out _ _ _ _ _ _ _ _ _ _ _ _ _ _ w h
  · have hb : y1 4 = false := by
      cases hb : y1 4
      · rfl
      · exact absurd (.inr (.inr (.inr (.inl hb)))) h
    rw [hb]
    rw [hb] at h
    simp only [Bool.false_eq_true, false_or] at h
    exact walkIn _ _ _ _ _ _ _ _ _ _ _ _ z2 _ w w2 (by omega) (by omega) (by omega) (by omega) (by omega) (by omega) (by omega)

theorem own : ownKnob Try.prog.godebug = none := by kernel_rfl
theorem laidOut : laidOutB Try.prog = true := by kernel_rfl

/-! ### THE ROW's STEP, as the guide has it -/
set_option maxRecDepth 100000 in
theorem lifted (os : Os) (started : os.Started) (H : Type) (enc : TypeId × Value → H) :
    ReturnsInHanded {} Try.checked os 4 .any (Rows.greedyWaitsSpec.pre6 enc Try.prog Try.f4 Rows.greedyWaitsRow.domain false) (Rows.greedyWaitsSpec.post enc Try.prog Try.f4 false true false false) := by
  refine returnsInHanded_of_change (C := Try.checked) own started (by kernel_rfl) Try.func4
    (ChangeSpec.witness6 (enc := enc) (C := Try.checked) false ⟨#[], #[.agg #[.int .i64 0, .int .i64 0, .int .i64 0, .int .i64 0, .bool false], .agg #[.int .i64 0, .int .i64 0, .int .i64 0, .int .i64 0, .bool false], .slice none 0 0, .int .u8 0], []⟩ 8 (by kernel_rfl) (by kernel_rfl) (by kernel_rfl) (by kernel_rfl)) ?_
  intro W base args ds gs before hval0 hW hcnd _
  have hval : ∀ (j : Nat) t v, Try.f4.params[j]? = some t → args[j]? = some v → Value.okWide Try.prog W .any base t v := hval0
  have hW' := hW
  obtain ⟨p, q, hA0, hV, rfl, hfz, hnd⟩ := hW
  have hA : DataW.TrodAll enc Try.prog W 0 (fun _ => true) true Try.f4.params.toList args.toList ds p := hA0
  rw [Try.params4] at hA hval
  obtain ⟨v0, vs0, d0, ds0, p0, q0, hargs, rfl, rfl, h0, r0⟩ := trodAll_cons hA
  obtain ⟨v1, vs1, d1, ds1, p1, q1, rfl, rfl, rfl, h1, r1⟩ := trodAll_cons r0
  obtain ⟨v2, vs2, d2, ds2, p2, q2, rfl, rfl, rfl, h2, r2⟩ := trodAll_cons r1
  obtain ⟨v3, vs3, d3, ds3, p3, q3, rfl, rfl, rfl, h3, r3⟩ := trodAll_cons r2
  obtain ⟨rfl, rfl, rfl⟩ := trodAll_nil r3
  obtain rfl : args = #[v0, v1, v2, v3] := by cases args; simp_all
  obtain ⟨rfl, rfl⟩ := trodVars_none hV
  obtain ⟨cs0, rfl, sz0⟩ := okWide_struct Try.underlying25 (hval 0 25 v0 rfl rfl)
  have k0 := h0
  have lt0 : ∀ x ∈ p0, x.block < W.heap.size := by obtain ⟨m, hm⟩ := k0; exact DataW.trod_lt m _ _ _ hm
  obtain ⟨z0, y0, w0, rfl⟩ : ∃ (z : Nat → Int) (y : Nat → Bool), (∀ i, i < 5 → (Lit.int .i64 (z i)).wf = true) ∧ cs0 = ⟨(List.range 5).map (mixed (fun j => j == 4) z y)⟩ := by
    obtain ⟨fuel, hf⟩ := h0
    exact isMix_of (fun j => j == 4) Try.underlying25 Try.underlying3 Try.underlying4 (by kernel_rfl) (by kernel_rfl) (sz0.trans (by kernel_rfl)) (by decide) hf
  obtain ⟨cs1, rfl, sz1⟩ := okWide_struct Try.underlying25 (hval 1 25 v1 rfl rfl)
  have k1 := h1
  have lt1 : ∀ x ∈ p1, x.block < W.heap.size := by obtain ⟨m, hm⟩ := k1; exact DataW.trod_lt m _ _ _ hm
  obtain ⟨z1, y1, w1, rfl⟩ : ∃ (z : Nat → Int) (y : Nat → Bool), (∀ i, i < 5 → (Lit.int .i64 (z i)).wf = true) ∧ cs1 = ⟨(List.range 5).map (mixed (fun j => j == 4) z y)⟩ := by
    obtain ⟨fuel, hf⟩ := h1
    exact isMix_of (fun j => j == 4) Try.underlying25 Try.underlying3 Try.underlying4 (by kernel_rfl) (by kernel_rfl) (sz1.trans (by kernel_rfl)) (by decide) hf
  obtain ⟨a2, len2, cap2, rfl⟩ := okWide_slice Try.underlying43 (hval 2 43 v2 rfl rfl)
  have k2 := h2
  have lt2 : ∀ x ∈ p2, x.block < W.heap.size := by obtain ⟨m, hm⟩ := k2; exact DataW.trod_lt m _ _ _ hm
  obtain ⟨z2, w2⟩ : ∃ z, IsBools W a2 len2 cap2 z := by
    obtain ⟨fuel, hf⟩ := h2
    exact isBools_of Try.underlying43 Try.underlying4 (by kernel_rfl) hf
  obtain ⟨a3, rfl, rfl, rfl, w3⟩ := open_int Try.underlying5 (hval 3 5 v3 rfl rfl) h3
  clear hA0 hval0
  refine (walk z0 y0 z1 y1 a2 len2 cap2 z2 a3 W w0 w1 w2 w3).mono fun e W' ⟨he, bel⟩ => ?_
  subst he
  exact ⟨_, rfl, _, _, _, [], _, [], hW', trodAll_mk1 (shut_bool Try.underlying4 _), (trodAll_cons_mk (Below.trod laidOut (by kernel_rfl) (of_decide_eq_true (by kernel_rfl)) k0 bel lt0) (trodAll_cons_mk (Below.trod laidOut (by kernel_rfl) (of_decide_eq_true (by kernel_rfl)) k1 bel lt1) (trodAll_cons_mk (Below.trod laidOut (by kernel_rfl) (of_decide_eq_true (by kernel_rfl)) k2 bel lt2) (trodAll_cons_mk (shut_int Try.underlying5 w3) trodAll_mk0)))), rfl, bel.frame _, fun h => by cases h⟩

theorem over : Rows.greedyWaitsRow.holds Try.pinned (OpenSpec.ofChange Rows.greedyWaitsSpec) :=
  OpenClaim.holds_of_wide 4 Try.f4 rfl rfl rfl rfl rfl rfl rfl ⟨rfl, rfl, rfl, rfl, rfl⟩ rfl rfl rfl rfl rfl (by kernel_rfl) Try.func4 (by kernel_rfl)
    (of_decide_eq_true (by kernel_rfl)) (by unfold Func.isWrapper; first | (rw [if_pos (by decide +kernel)]; kernel_rfl) | (rw [if_neg (by decide +kernel)]; exact ⟨rfl, rfl⟩))
    (fun os started H enc _ => lifted os started H enc)

theorem proved : Rows.GreedyWaitsSaid := over
#print axioms proved
end Go.Proofs.Ytedkojcogccgcaa.greedyWaits
