/-
  DescOwn: of descriptors that began one behind the other each has the number in that order; whatever is done to one of them (it waits, is raised some times, is turned to whatever), the others are as they began, each record is what it began as, and the one was raised so often, and waits; for any list of stamps, any one of them, any number of raises, and whatever it is turned to.
  Conditions: none (of no stamps, and of more than 60, the law says nothing by itself).
-/
import Derived.Test.YtpllfichmpappaaRows
import Derived.Test.YtpllfichmpappaaOpen
import Derived.Test.YtpllfichmpappaaMade03
import Derived.Test.YtpllfichmpappaaEqRec
namespace Go.Proofs.Ytpllfichmpappaa.descOwn
open Go.ChangeShapes Go.WideShapes Go.ChangeAt Go.RowKit Go.Proofs.Ytpllfichmpappaa.base Go.Proofs.Ytpllfichmpappaa.ar Go.Proofs.Ytpllfichmpappaa.ds
set_option linter.unusedVariables false

/-- The record that number i began as. -/
def rc (z : Nat → Int) (i : Nat) : Rc := ⟨3, 0, 0, 0, 0, i, (i : Int) + 1, (i : Int) + 2, z i⟩
def rcs (z : Nat → Int) (k : Nat) : List Rc := (List.range k).map (rc z)
theorem rcs_succ (z : Nat → Int) (k : Nat) : rcs z (k + 1) = rcs z k ++ [⟨3, 0, 0, 0, 0, k, (k : Int) + 1, (k : Int) + 2, z k⟩] := by simp [rcs, rc, List.range_succ]
theorem rcs_length (z : Nat → Int) (k : Nat) : (rcs z k).length = k := by simp [rcs]
theorem rcs_get (z : Nat → Int) (k i : Nat) (h : i < k) : (rcs z k)[i]? = some (rc z i) := by simp [rcs, h]

/-- The first k numbers are descriptors, as they began, but for the one K; no other is one. -/
def Began (is : Int → Bool) (num : Int → Nat → Int) (k K : Nat) : Prop :=
  (∀ j : Nat, j < k → is j = true ∧ (j ≠ K → num j 0 = 1 ∧ num j 1 = j ∧ num j 2 = 0)) ∧ ∀ j : Nat, k ≤ j → is j = false
theorem Began.upd {is : Int → Bool} {num : Int → Nat → Int} {k K : Nat} (h : Began is num k K) (c : Nat) (v : Int) : Began is (upd num K c v) k K :=
  ⟨fun j hj => ⟨(h.1 j hj).1, fun hne => by
    have := (h.1 j hj).2 hne
    have e : ((j : Int) ≠ (K : Int)) := by omega
    rw [upd_other _ _ _ _ _ _ (.inl e), upd_other _ _ _ _ _ _ (.inl e), upd_other _ _ _ _ _ _ (.inl e)]
    exact this⟩, h.2⟩

/-- At the head of a round of the first loop. -/
def Rel1 (w : World) (tb mb ab : Nat) (z : Nat → Int) (len : Nat) (i : Value) (wr : World) : Prop :=
  ∃ (k : Nat) (is : Int → Bool) (blk : Int → Nat → Nat) (num : Int → Nat → Int) (r : Option Nat), k ≤ len ∧ i = .int .i64 k ∧ Tab w.heap.size wr tb mb ab k is blk num 0 ∧ ArenaR w.heap.size wr ab 64 (rcs z k) r ∧ Began is num k len ∧ Below w.heap.size w wr

/-- .. of the second: the one was raised m times. -/
def Rel2 (w : World) (tb mb ab : Nat) (is : Int → Bool) (blk : Int → Nat → Nat) (z : Nat → Int) (k K q : Nat) (i : Value) (wr : World) : Prop :=
  ∃ (m : Nat) (num : Int → Nat → Int) (r : Option Nat) (B : Int), m ≤ q ∧ i = .int .i64 m ∧ (0 ≤ B ∧ B ≤ 2 + 2 * m) ∧ (num K 0 = 1 ∧ num K 1 = K + m ∧ num K 2 = 1) ∧ Tab w.heap.size wr tb mb ab k is blk num B ∧ ArenaR w.heap.size wr ab 64 (rcs z k) r ∧ Began is num k K ∧ Below w.heap.size w wr

/-- .. of the third: all that is told of the first m was looked at. -/
def Rel3 (w : World) (tb mb ab : Nat) (is : Int → Bool) (blk : Int → Nat → Nat) (num : Int → Nat → Int) (z : Nat → Int) (k : Nat) (i : Value) (wr : World) : Prop :=
  ∃ (m : Nat) (r : Option Nat) (B : Int), m ≤ k ∧ i = .int .i64 m ∧ (0 ≤ B ∧ B ≤ 21 + 3 * m) ∧ Tab w.heap.size wr tb mb ab k is blk num B ∧ ArenaR w.heap.size wr ab 64 (rcs z k) r ∧ Below w.heap.size w wr

theorem walk_out (a0 : Option Addr) (len0 cap0 : Nat) (a1 a2 a3 : Int) (w : World) (h : (len0 : Int) < 1 ∨ 60 < (len0 : Int)) :
    Calls Try.prog 5 #[.slice a0 len0 cap0, .int .u8 a1, .int .i64 a2, .int .u8 a3] w fun e w' => e = .returned (.bool true) ∧ Below w.heap.size w w' := by
  rcases h with h | h
  · go_enter Try.func5, Try.ntmps5
    go_wp2_with fail
    refine (alive_any _).mono ?_
    rintro e v1 ⟨rfl, B1⟩
    go_wp2
    go_ret
    exact ⟨rfl, B1.out⟩
  · have h' : ¬ (len0 : Int) < 1 := by omega
    go_enter Try.func5, Try.ntmps5
    go_wp2_with fail
    refine (alive_any _).mono ?_
    rintro e v1 ⟨rfl, B1⟩
    go_wp2
    go_ret
    exact ⟨rfl, B1.out⟩

set_option maxRecDepth 100000 in
set_option maxHeartbeats 4000000 in
theorem walkIn (a0 : Option Addr) (len0 cap0 : Nat) (z0 : Nat → Int) (a1 a2 a3 : Int) (w : World) (w0 : IsRow .u8 w a0 len0 cap0 z0) (w1 : (Lit.int .u8 a1).wf = true) (w3 : (Lit.int .u8 a3).wf = true) (h0 : ¬ (len0 : Int) < 1) (h1 : ¬ 60 < (len0 : Int)) :
    Calls Try.prog 5 #[.slice a0 len0 cap0, .int .u8 a1, .int .i64 a2, .int .u8 a3] w fun e w' => e = .returned (.bool true) ∧ Below w.heap.size w w' := by
  have W0 := Lib.hid w0
  have W1 := Lib.hid (bounds_u8 w1)
  have W3 := Lib.hid (bounds_u8 w3)
  clear w0 w1 w3
  go_enter Try.func5, Try.ntmps5
  go_wp2_with fail
  refine (alive_any _).mono ?_
  rintro e v1 ⟨rfl, B1⟩
  go_wp2_with fail
  refine (made_any w.heap.size 64 (by omega) (by omega) v1 B1.out.size).mono ?_
  rintro e v2 ⟨ab, tb, mb, rfl, A2, T2, g2⟩
  have B2 := Lib.hid (bl_none B1.out g2.out)
  clear B1 g2
  go_wp2_with fail
  go_loopw [11] (fun i wr => Rel1 w tb mb ab z0 len0 i wr) (fun i _ => (len0 - intOf i).toNat)
  case atStart => exact ⟨0, _, _, _, none, by omega, rfl, T2.out, A2.out, ⟨fun j hj => by omega, fun j _ => rfl⟩, B2.out⟩
  case round =>
    clear T2 A2 B2
    obtain ⟨k, is, blk, num, r, hk, rfl, T0, A0, hbg0, B0⟩ := hrel
    have T := Lib.hid T0
    have A := Lib.hid A0
    have B := Lib.hid B0
    have hbg := Lib.hid hbg0
    clear T0 A0 B0 hbg0
    by_cases hlt : k < len0
    · obtain ⟨_, _, h | ⟨b2, off2, rfl, hb2, hz⟩⟩ := W0.out
      · exfalso; omega
      have hcell := (B.out.cell (p := ⟨b2, off2 + k, none⟩) hb2).trans (hz k hlt).1
      have htb := Lib.hid (bounds_u8 (hz k hlt).2)
      clear hz hb2
      have hlt' : (k : Int) < (len0 : Int) := by omega
      have hcv : IntKind.i64.wrap (z0 k) = z0 k := IntWalk.i64_in _ (by have := htb.out; omega)
      go_wp2_with fail
      refine (begin_at w.heap.size tb mb ab k is blk num 0 wr T.out (by omega) k (k + 1) (k + 2) (z0 k) k 64 (rcs z0 k) r A.out k (rcs_length _ _) (by omega) (by omega) (by omega) (hbg.out.2 k (Nat.le_refl _)) (by have := htb.out; omega)).mono ?_
      rintro e u1 ⟨r1, is1, blk1, num1, rfl, A1, T1, F1, K1, b1⟩
      have B1 := Lib.hid (B.out.trans b1.out)
      have hbg1 : Hid (Began is1 num1 (k + 1) len0) := ⟨fun j hj => by
        by_cases e : j = k
        · subst e
          obtain ⟨f0, f1, f2, f3⟩ := F1.out
          exact ⟨f0, fun _ => ⟨f1, f2, f3⟩⟩
        · obtain ⟨e1, e2, e3⟩ := K1.out j (by omega)
          rw [e1, e3]
          exact hbg.out.1 j (by omega), fun j hj => by
        obtain ⟨e1, _, _⟩ := K1.out j (by omega)
        rw [e1]
        exact hbg.out.2 j (by omega)⟩
      rw [← rcs_succ] at A1
      clear T A B hbg b1 F1 K1 hcell
      go_wp2
      go_roundw
      case rel => exact ⟨k + 1, is1, blk1, num1, r1, by omega, by go_num, T1.out, A1.out, hbg1.out, B1.out⟩
      case measure => simp [intOf]; omega
    · obtain rfl : k = len0 := by omega
      obtain ⟨K, hK, hKl⟩ : ∃ K : Nat, a1.tmod (k : Int) = (K : Int) ∧ K < k := by
        have h3 := W1.out
        have h1 : 0 ≤ a1.tmod (k : Int) := Int.tmod_nonneg _ (by omega)
        have h2 : a1.tmod (k : Int) < (k : Int) := Int.tmod_lt_of_pos _ (by omega)
        exact ⟨(a1.tmod (k : Int)).toNat, by omega, by omega⟩
      have hcv1 : IntKind.i64.wrap a1 = a1 := IntWalk.i64_in _ (by have := W1.out; omega)
      have hkz : ((k : Int) == 0) = false := by simp; omega
      have hbK : Hid (Began is num k K) := ⟨fun j hj => ⟨(hbg.out.1 j hj).1, fun _ => (hbg.out.1 j hj).2 (by omega)⟩, hbg.out.2⟩
      obtain ⟨hiK0, hK0⟩ := hbg.out.1 K hKl
      obtain ⟨f0, f1, f2⟩ := hK0 (by omega)
      have hiK := Lib.hid hiK0
      have hwK : Hid ((Lit.int .i64 (K : Int)).wf = true) := WalkArith.wf_i64 (by omega)
      have n0 := Lib.hid f0
      have n1 := Lib.hid f1
      clear hbg hiK0 hK0 f0 f1 f2
      go_wp2_with fail
      refine (wait_hit w.heap.size tb mb ab k is blk num 0 wr K T.out true hiK.out hwK.out (by omega) n0.out).mono ?_
      rintro e u1 ⟨rfl, T1, o1⟩
      have B1 := Lib.hid (T.out.low2 hiK.out (by omega) (by omega) B.out o1.out)
      have A1 := Lib.hid (T.out.arena A.out o1.out (fun i _ e => by rcases e with rfl | rfl; exact ⟨_, 0, hiK.out, by omega, rfl⟩; exact ⟨_, 2, hiK.out, by omega, rfl⟩))
      have m0 : Hid (upd num K 2 (bit true) K 0 = 1) := (upd_other _ _ _ _ _ _ (.inr (by omega))).trans n0.out
      have m1 : Hid (upd num K 2 (bit true) K 1 = K) := (upd_other _ _ _ _ _ _ (.inr (by omega))).trans n1.out
      have m2 : Hid (upd num K 2 (bit true) K 2 = 1) := upd_hit _ _ _ _
      have hb1 := Lib.hid (hbK.out.upd 2 (bit true))
      generalize upd num K 2 (bit true) = num1 at *
      obtain ⟨q, hq, hql⟩ : ∃ q : Nat, a3.tmod 9 = (q : Int) ∧ q < 9 := by
        have h3 := W3.out
        have h1 : 0 ≤ a3.tmod 9 := Int.tmod_nonneg _ (by omega)
        have h2 : a3.tmod 9 < 9 := Int.tmod_lt_of_pos _ (by omega)
        exact ⟨(a3.tmod 9).toNat, by omega, by omega⟩
      have hcv3 : IntKind.i64.wrap a3 = a3 := IntWalk.i64_in _ (by have := W3.out; omega)
      clear T A B hbK o1 n0 n1
      go_wp2_with fail
      go_loopw [15] (fun i wr => Rel2 w tb mb ab is blk z0 k K q i wr) (fun i _ => (q - intOf i).toNat)
      case atStart => exact ⟨0, num1, _, _, by omega, rfl, by omega, ⟨m0.out, by rw [m1.out]; omega, m2.out⟩, T1.out, A1.out, hb1.out, B1.out⟩
      case round =>
        clear T1 A1 hb1 B1 m0 m1 m2 hcv1
        obtain ⟨m, num2, r2, A, hm, rfl, hA, hn, T0, A0, hbg0, B0⟩ := hrel
        have T := Lib.hid T0
        have AR := Lib.hid A0
        have hbg := Lib.hid hbg0
        have B := Lib.hid B0
        have hA' := Lib.hid hA
        have hn' := Lib.hid hn
        clear T0 A0 hbg0 B0 hA hn
        by_cases hmq : m < q
        · have hmq' : (m : Int) < (q : Int) := by omega
          go_wp2_with fail
          refine (raise_hit w.heap.size tb mb ab k is blk num2 A _ K T.out hiK.out hwK.out (by have := hA'.out; omega) hn'.out.1 (by have := hn'.out; omega)).mono ?_
          rintro e u2 ⟨rfl, T2, o2⟩
          have B2 := Lib.hid (T.out.low2 hiK.out (by omega) (by omega) B.out o2.out)
          have A2 := Lib.hid (T.out.arena AR.out o2.out (fun i _ e => by rcases e with rfl | rfl; exact ⟨_, 0, hiK.out, by omega, rfl⟩; exact ⟨_, 1, hiK.out, by omega, rfl⟩))
          clear T B AR o2
          go_wp2
          go_roundw
          case rel => exact ⟨m + 1, _, _, _, by omega, by go_num, by have := hA'.out; omega, ⟨(upd_other _ _ _ _ _ _ (.inr (by omega))).trans hn'.out.1, by rw [upd_hit]; have := hn'.out; omega, (upd_other _ _ _ _ _ _ (.inr (by omega))).trans hn'.out.2.2⟩, T2.out, A2.out, hbg.out.upd 1 _, B2.out⟩
          case measure => simp [intOf]; omega
        · obtain rfl : m = q := by omega
          go_wp2_with fail
          refine (turn_some w.heap.size tb mb ab k is blk num2 A _ K T.out a2 hiK.out hwK.out (by have := hA'.out; omega) hn'.out.1).mono ?_
          rintro e u2 ⟨bb, v, rfl, T2, g2⟩
          have B2 := Lib.hid (T.out.low1 hiK.out (by omega) B.out g2.out)
          have A2 := Lib.hid (T.out.arena AR.out (Only.of (S := fun i => i = blk K 0) g2.out (fun i e _ => by simpa using e.symm)) (fun i _ e => ⟨_, 0, hiK.out, by omega, e⟩))
          have p1 : Hid (upd num2 K 0 v K 1 = K + m) := (upd_other _ _ _ _ _ _ (.inr (by omega))).trans hn'.out.2.1
          have p2 : Hid (upd num2 K 0 v K 2 = 1) := (upd_other _ _ _ _ _ _ (.inr (by omega))).trans hn'.out.2.2
          have hb2 := Lib.hid (hbg.out.upd 0 v)
          generalize upd num2 K 0 v = num3 at *
          clear T B AR g2 hbg hn'
          go_wp2_with fail
          go_loopw [16] (fun i wr => Rel3 w tb mb ab is blk num3 z0 k i wr) (fun i _ => (k - intOf i).toNat)
          case atStart => exact ⟨0, _, _, by omega, rfl, by have := hA'.out; omega, T2.out, A2.out, B2.out⟩
          case round =>
            clear T2 A2 B2 hA'
            obtain ⟨j, r3, A, hj, rfl, hA, T0, A0, B0⟩ := hrel
            have T := Lib.hid T0
            have AR := Lib.hid A0
            have B := Lib.hid B0
            have hA' := Lib.hid hA
            clear T0 A0 B0 hA
            by_cases hjk : j < k
            · obtain ⟨_, _, h | ⟨b3, off3, rfl, hb3, hz⟩⟩ := W0.out
              · exfalso; omega
              have hc0 := (B.out.cell (p := ⟨b3, off3 + j, none⟩) hb3).trans (hz j hjk).1
              have htb := Lib.hid (bounds_u8 (hz j hjk).2)
              clear hz hb3
              have hjk' : (j : Int) < (k : Int) := by omega
              have hcvj : IntKind.i64.wrap (z0 j) = z0 j := IntWalk.i64_in _ (by have := htb.out; omega)
              obtain ⟨hij0, hjn0⟩ := hb2.out.1 j hjk
              have hij := Lib.hid hij0
              have hjn := Lib.hid hjn0
              have hwj : Hid ((Lit.int .i64 (j : Int)).wf = true) := WalkArith.wf_i64 (by omega)
              have hrec := rec_hit w.heap.size tb mb ab k is blk num3 A _ (j : Int) T.out j rfl ⟨3, 0, 0, 0, 0, j, (j : Int) + 1, (j : Int) + 2, z0 j⟩ 64 (rcs z0 k) r3 AR.out (by rw [rcs_length]; omega) (rcs_get z0 k j hjk) hij.out hwj.out
              dsimp only at hrec
              clear hij0 hjn0
              go_wp2_with fail
              refine hrec.mono ?_
              rintro e u3 ⟨rfl, g3⟩
              have hc1 := g3.out.cell hc0 (by simp)
              have T3 := Lib.hid (T.out.grown g3.out)
              have A3 := Lib.hid (AR.out.grown g3.out)
              have B3 := Lib.hid (bl_none B.out g3.out)
              have hl3 := World.block_lt_of_cell? _ _ hc1
              clear T AR B g3 hc0 hrec
              have hs1 : IntKind.i64.wrap ((j : Int) + 1) = (j : Int) + 1 := IntWalk.i64_in _ (by omega)
              have hs2 : IntKind.i64.wrap ((j : Int) + 2) = (j : Int) + 2 := IntWalk.i64_in _ (by omega)
              go_wp2_with fail
              go_quiet (fail)
              clear hs1 hs2 hc1
              have G5 : u3.grownBy ((u3.alloc (.cells #[.int .i64 3, .int .i64 0, .int .i64 0, .int .i64 0, .int .i64 0, .int .i64 j, .int .i64 ((j : Int) + 1), .int .i64 ((j : Int) + 2), .int .i64 (z0 j)] 40)).drewN nq) none := gb_drewN (gb_alloc (gb_refl _ _) _) _
              have T5 := Lib.hid (T3.out.grown G5)
              have A5 := Lib.hid (A3.out.grown G5)
              have B5 := Lib.hid (bl_none B3.out G5)
              clear G5 T3 A3 B3 hl3
              generalize ((u3.alloc (.cells #[.int .i64 3, .int .i64 0, .int .i64 0, .int .i64 0, .int .i64 0, .int .i64 j, .int .i64 ((j : Int) + 1), .int .i64 ((j : Int) + 2), .int .i64 (z0 j)] 40)).drewN nq) = u5 at *
              by_cases hjK : j = K
              · subst hjK
                go_wp2
                go_roundw
                case rel => exact ⟨j + 1, r3, A, by omega, by go_num, by have := hA'.out; omega, T5.out, A5.out, B5.out⟩
                case measure => simp [intOf]; omega
              · have S1 := Lib.hid (hjn.out hjK)
                go_wp2_with fail
                refine (status_hit w.heap.size tb mb ab k is blk num3 A u5 j T5.out hij.out hwj.out (by have := hA'.out; omega)).mono ?_
                rw [S1.out.1]
                rintro e u6 ⟨rfl, T6, g6⟩
                have A6 := Lib.hid (T5.out.arena A5.out (Only.of (S := fun i => i = blk j 0) g6.out (fun i e _ => by simpa using e.symm)) (fun i _ e => ⟨_, 0, hij.out, by omega, e⟩))
                have B6 := Lib.hid (T5.out.low1 hij.out (by omega) B5.out g6.out)
                clear T5 A5 B5 g6
                go_wp2_with fail
                refine (priority_hit w.heap.size tb mb ab k is blk num3 (A + 1) u6 j T6.out hij.out hwj.out (by have := hA'.out; omega)).mono ?_
                rw [S1.out.2.1]
                rintro e u7 ⟨rfl, T7, g7⟩
                have A7 := Lib.hid (T6.out.arena A6.out (Only.of (S := fun i => i = blk j 1) g7.out (fun i e _ => by simpa using e.symm)) (fun i _ e => ⟨_, 1, hij.out, by omega, e⟩))
                have B7 := Lib.hid (T6.out.low1 hij.out (by omega) B6.out g7.out)
                clear T6 A6 B6 g7
                go_wp2_with fail
                refine (waiting_hit w.heap.size tb mb ab k is blk num3 (A + 1 + 1) u7 j T7.out hij.out hwj.out (by have := hA'.out; omega)).mono ?_
                rw [S1.out.2.2]
                rintro e u8 ⟨rfl, T8, g8⟩
                have A8 := Lib.hid (T7.out.arena A7.out (Only.of (S := fun i => i = blk j 2) g8.out (fun i e _ => by simpa using e.symm)) (fun i _ e => ⟨_, 2, hij.out, by omega, e⟩))
                have B8 := Lib.hid (T7.out.low1 hij.out (by omega) B7.out g8.out)
                clear T7 A7 B7 g8
                go_wp2
                go_roundw
                case rel => exact ⟨j + 1, r3, A + 1 + 1 + 1, by omega, by go_num, by have := hA'.out; omega, T8.out, A8.out, B8.out⟩
                case measure => simp [intOf]; omega
            · obtain rfl : j = k := by omega
              go_wp2_with fail
              refine (priority_hit w.heap.size tb mb ab j is blk num3 A _ K T.out hiK.out hwK.out (by have := hA'.out; omega)).mono ?_
              rw [p1.out]
              rintro e u6 ⟨rfl, T6, g6⟩
              have B6 := Lib.hid (T.out.low1 hiK.out (by omega) B.out g6.out)
              go_wp2_with fail
              refine (waiting_hit w.heap.size tb mb ab j is blk num3 (A + 1) u6 K T6.out hiK.out hwK.out (by have := hA'.out; omega)).mono ?_
              rw [p2.out]
              rintro e u7 ⟨rfl, T7, g7⟩
              have B7 := Lib.hid (T6.out.low1 hiK.out (by omega) B6.out g7.out)
              go_wp2
              go_ret
              exact ⟨by rfl, B7.out⟩

theorem walk (a0 : Option Addr) (len0 cap0 : Nat) (z0 : Nat → Int) (a1 a2 a3 : Int) (w : World) (w0 : IsRow .u8 w a0 len0 cap0 z0) (w1 : (Lit.int .u8 a1).wf = true) (w2 : (Lit.int .i64 a2).wf = true) (w3 : (Lit.int .u8 a3).wf = true) :
    Calls Try.prog 5 #[.slice a0 len0 cap0, .int .u8 a1, .int .i64 a2, .int .u8 a3] w fun e w' => e = .returned (.bool true) ∧ Below w.heap.size w w' := by
  by_cases h : (len0 : Int) < 1 ∨ 60 < (len0 : Int)
  · exact walk_out a0 len0 cap0 a1 a2 a3 w h
  · exact walkIn a0 len0 cap0 z0 a1 a2 a3 w w0 w1 w3 (by omega) (by omega)

theorem own : ownKnob Try.prog.godebug = none := by kernel_rfl
theorem laidOut : laidOutB Try.prog = true := by kernel_rfl

/-! ### THE ROW's STEP, as the guide has it -/
set_option maxRecDepth 100000 in
theorem lifted (os : Os) (started : os.Started) (H : Type) (enc : TypeId × Value → H) :
    ReturnsInHanded {} Try.checked os 5 .any (Rows.descOwnSpec.pre6 enc Try.prog Try.f5 Rows.descOwnRow.domain false) (Rows.descOwnSpec.post enc Try.prog Try.f5 false true false false) := by
  refine returnsInHanded_of_change (C := Try.checked) own started (by kernel_rfl) Try.func5
    (ChangeSpec.witness6 (enc := enc) (C := Try.checked) false ⟨#[], #[.slice none 0 0, .int .u8 0, .int .i64 0, .int .u8 0], []⟩ 8 (by kernel_rfl) (by kernel_rfl) (by kernel_rfl) (by kernel_rfl)) ?_
  intro W base args ds gs before hval0 hW hcnd _
  have hval : ∀ (j : Nat) t v, Try.f5.params[j]? = some t → args[j]? = some v → Value.okWide Try.prog W .any base t v := hval0
  have hW' := hW
  obtain ⟨p, q, hA0, hV, rfl, hfz, hnd⟩ := hW
  have hA : DataW.TrodAll enc Try.prog W 0 (fun _ => true) true Try.f5.params.toList args.toList ds p := hA0
  rw [Try.params5] at hA hval
  obtain ⟨v0, vs0, d0, ds0, p0, q0, hargs, rfl, rfl, h0, r0⟩ := trodAll_cons hA
  obtain ⟨v1, vs1, d1, ds1, p1, q1, rfl, rfl, rfl, h1, r1⟩ := trodAll_cons r0
  obtain ⟨v2, vs2, d2, ds2, p2, q2, rfl, rfl, rfl, h2, r2⟩ := trodAll_cons r1
  obtain ⟨v3, vs3, d3, ds3, p3, q3, rfl, rfl, rfl, h3, r3⟩ := trodAll_cons r2
  obtain ⟨rfl, rfl, rfl⟩ := trodAll_nil r3
  obtain rfl : args = #[v0, v1, v2, v3] := by cases args; simp_all
  obtain ⟨rfl, rfl⟩ := trodVars_none hV
  obtain ⟨a0, len0, cap0, rfl⟩ := okWide_slice Try.underlying48 (hval 0 48 v0 rfl rfl)
  have k0 := h0
  have lt0 : ∀ x ∈ p0, x.block < W.heap.size := by obtain ⟨m, hm⟩ := k0; exact DataW.trod_lt m _ _ _ hm
  obtain ⟨z0, w0⟩ : ∃ z, IsRow .u8 W a0 len0 cap0 z := by
    obtain ⟨fuel, hf⟩ := h0
    exact isRow_of Try.underlying48 Try.underlying5 (by kernel_rfl) hf
  obtain ⟨a1, rfl, rfl, rfl, w1⟩ := open_int Try.underlying5 (hval 1 5 v1 rfl rfl) h1
  obtain ⟨a2, rfl, rfl, rfl, w2⟩ := open_int Try.underlying3 (hval 2 3 v2 rfl rfl) h2
  obtain ⟨a3, rfl, rfl, rfl, w3⟩ := open_int Try.underlying5 (hval 3 5 v3 rfl rfl) h3
  clear hA0 hval0
  refine (walk a0 len0 cap0 z0 a1 a2 a3 W w0 w1 w2 w3).mono fun e W' ⟨he, bel⟩ => ?_
  subst he
  exact ⟨_, rfl, _, _, _, [], _, [], hW', trodAll_mk1 (shut_bool Try.underlying4 _), (trodAll_cons_mk (Below.trod laidOut (by kernel_rfl) (of_decide_eq_true (by kernel_rfl)) k0 bel lt0) (trodAll_cons_mk (shut_int Try.underlying5 w1) (trodAll_cons_mk (shut_int Try.underlying3 w2) (trodAll_cons_mk (shut_int Try.underlying5 w3) trodAll_mk0)))), rfl, bel.frame _, fun h => by cases h⟩

theorem over : Rows.descOwnRow.holds Try.pinned (OpenSpec.ofChange Rows.descOwnSpec) :=
  OpenClaim.holds_of_wide 5 Try.f5 rfl rfl rfl rfl rfl rfl rfl ⟨rfl, rfl, rfl, rfl, rfl⟩ rfl rfl rfl rfl rfl (by kernel_rfl) Try.func5 (by kernel_rfl)
    (of_decide_eq_true (by kernel_rfl)) (by unfold Func.isWrapper; first | (rw [if_pos (by decide +kernel)]; kernel_rfl) | (rw [if_neg (by decide +kernel)]; exact ⟨rfl, rfl⟩))
    (fun os started H enc _ => lifted os started H enc)

theorem proved : Rows.DescOwnSaid := over
#print axioms proved
end Go.Proofs.Ytpllfichmpappaa.descOwn
