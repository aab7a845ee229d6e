/-
  FloorOwn: two floors have nothing to do with each other: whatever is done to one (events, a descriptor, a version, a locator, a swap, a commit, a senior, a beat, a ticket, draws), the other one is as at first; for any draws, any events, any number of draws.
  Conditions: none (of more than 50 draws, or events, the law says nothing by itself).
-/
import Derived.Test.YtocjbbfeegmkaaaRows
import Derived.Test.YtocjbbfeegmkaaaOwn13
import Derived.Test.YtocjbbfeegmkaaaOpenB
namespace Go.Proofs.Ytocjbbfeegmkaaa.floorOwn
open Go.ChangeShapes Go.WideShapes Go.ChangeAt Go.RowKit Go.Proofs.Ytocjbbfeegmkaaa.base Go.Proofs.Ytocjbbfeegmkaaa.fl Go.Proofs.Ytocjbbfeegmkaaa.ce Go.Proofs.Ytocjbbfeegmkaaa.rf Go.Proofs.Ytocjbbfeegmkaaa.ds Go.Proofs.Ytocjbbfeegmkaaa.mm
set_option linter.unusedVariables false

/-- The first k events. -/
def evs (z : Nat → Nat → Int) (k : Nat) : List (Nat → Int) := (List.range k).map z
theorem evs_length (z : Nat → Nat → Int) (k : Nat) : (evs z k).length = k := by simp [evs]
theorem evs_succ (z : Nat → Nat → Int) (k : Nat) : evs z k ++ [z k] = evs z (k + 1) := by simp [evs, List.range_succ]

/-- At the head of a round: k events were noted. -/
def RelN (H : List (Nat → Int) → World → Prop) (z : Nat → Nat → Int) (len : Nat) (iv : Value) (wr : World) : Prop := ∃ k : Nat, k ≤ len ∧ iv = .int .i64 k ∧ H (evs z k) wr
/-- At the head of a round: k draws were made. -/
def RelD (H : (Nat → Nat) → World → Prop) (N : Nat) (iv : Value) (wr : World) : Prop := ∃ (k : Nat) (nx : Nat → Nat), k ≤ N ∧ iv = .int .i64 k ∧ H nx wr

theorem valA (j : Nat) (hj : j < 2) : ∃ y, ValAt ((((firsts (fun i => [1, 2].getD i 0) 2) ++ [(⟨3, 0, 0, 0, 0, 0, 0, 0, 0⟩ : ar.Rc)]) ++ [(⟨1, 9, 0, 0, 0, 0, 0, 0, 0⟩ : ar.Rc)]) ++ [(⟨2, 0, 4, 5, 5, 0, 0, 0, 0⟩ : ar.Rc)]) ((heads 2).set 0 6) (more (fun _ => false) ((4 : Nat) : Int) true) (upd (more (fun _ _ => 0) ((4 : Nat) : Int) (fun c => if c = 0 then 1 else if c = 1 then 0 else 0)) 4 0 2) j y ∧ [(9 : Int), 2][j]? = some y.val := by
  match j, hj with
  | 0, _ => exact ⟨⟨1, 9, 0, 0, 0, 0, 0, 0, 0⟩, ⟨6, ⟨2, 0, 4, 5, 5, 0, 0, 0, 0⟩, rfl, rfl, rfl, by decide, rfl, rfl⟩, rfl⟩
  | 1, _ => exact ⟨⟨1, 2, 0, 0, 0, 0, 0, 0, 0⟩, ⟨3, ⟨2, 0, -1, 2, 2, 0, 0, 0, 0⟩, rfl, rfl, rfl, by decide, rfl, rfl⟩, rfl⟩
theorem valB (j : Nat) (hj : j < 2) : ∃ y, ValAt (firsts (fun i => [1, 2].getD i 0) 2) (heads 2) (fun _ => false) (fun _ _ => 0) j y ∧ [(1 : Int), 2][j]? = some y.val := by
  match j, hj with
  | 0, _ => exact ⟨⟨1, 1, 0, 0, 0, 0, 0, 0, 0⟩, ⟨1, ⟨2, 0, -1, 0, 0, 0, 0, 0, 0⟩, rfl, rfl, rfl, by decide, rfl, rfl⟩, rfl⟩
  | 1, _ => exact ⟨⟨1, 2, 0, 0, 0, 0, 0, 0, 0⟩, ⟨3, ⟨2, 0, -1, 2, 2, 0, 0, 0, 0⟩, rfl, rfl, rfl, by decide, rfl, rfl⟩, rfl⟩
theorem rd_lit (w : World) (l : List Int) (t : TypeId) : vl.Rd (w.alloc (.cells ⟨l.map fun x => .int .i64 x⟩ t)) (some ⟨w.heap.size, 0, none⟩) l := by
  refine .inr ⟨w.heap.size, 0, rfl, fun i x hx => ?_⟩
  rw [Nat.zero_add, (Blk.made w t ⟨l.map fun x => .int .i64 x⟩).cell i]
  simp [hx]

set_option maxRecDepth 100000 in
theorem walk_out (a0 : Option Addr) (len0 cap0 : Nat) (a1 : Option Addr) (len1 cap1 : Nat) (a2 : Int) (w : World) (h : 50 < (len0 : Int)) : Calls Try.prog 5 #[.slice a0 len0 cap0, .slice a1 len1 cap1, .int .u8 a2] w fun e w' => e = .returned (.bool true) ∧ Below w.heap.size w w' := by
  go_enter Try.func5, Try.ntmps5
  go_wp2_with fail
  refine (alive_any _).mono ?_
  rintro e v1 ⟨rfl, g1⟩
  go_wp2
  go_ret
  exact ⟨rfl, gb_below g1.out⟩

set_option maxRecDepth 100000 in
theorem walk_out2 (a0 : Option Addr) (len0 cap0 : Nat) (a1 : Option Addr) (len1 cap1 : Nat) (a2 : Int) (w : World) (h0 : ¬ 50 < (len0 : Int)) (h : 50 < (len1 : Int)) : Calls Try.prog 5 #[.slice a0 len0 cap0, .slice a1 len1 cap1, .int .u8 a2] w fun e w' => e = .returned (.bool true) ∧ Below w.heap.size w w' := by
  go_enter Try.func5, Try.ntmps5
  go_wp2_with fail
  refine (alive_any _).mono ?_
  rintro e v1 ⟨rfl, g1⟩
  go_wp2
  go_ret
  exact ⟨rfl, gb_below g1.out⟩

set_option maxRecDepth 100000 in
set_option maxHeartbeats 8000000 in
theorem walkIn (a0 : Option Addr) (len0 cap0 : Nat) (z0 : Nat → Int) (a1 : Option Addr) (len1 cap1 : Nat) (z1 : Nat → Nat → Int) (a2 : Int) (w : World) (w0 : IsRow .u8 w a0 len0 cap0 z0) (w1 : IsInts 7 w a1 len1 cap1 z1) (l2 : 0 ≤ a2) (u2 : a2 ≤ 255) (h0 : ¬ 50 < (len0 : Int)) (h1 : ¬ 50 < (len1 : Int)) : Calls Try.prog 5 #[.slice a0 len0 cap0, .slice a1 len1 cap1, .int .u8 a2] w fun e w' => e = .returned (.bool true) ∧ Below w.heap.size w w' := by
  have W0 := Lib.hid w0
  have W1 := Lib.hid w1
  have HL := Lib.hid (show len0 ≤ 50 ∧ len1 ≤ 50 by omega)
  have NN := Lib.hid (fun (u : World) (b1 : Option Addr) (h1 : IsRow .i64 u b1 2 2 (fun i => [1, 2].getD i 0)) (h2 : IsRow .u8 u a0 len0 cap0 z0) => new_plain 3 (by omega) a0 len0 cap0 z0 (by omega) u b1 h1 h2)
  have D8 : Hid (∀ (i : Nat) (x : Int), (drawn z0 len0)[i]? = some x → 0 ≤ x ∧ x ≤ 255) := fun i x hx => by
    have hi : i < len0 := by
      have := (List.getElem?_eq_some_iff.1 hx).1
      rwa [drawn_length] at this
    rw [drawn_get z0 len0 i hi] at hx
    cases hx
    obtain ⟨_, _, h | ⟨b, off, _, _, hc⟩⟩ := w0
    · omega
    · exact bounds_u8 (hc i hi).2
  have hcv : IntKind.i64.wrap a2 = a2 := IntWalk.i64_in _ (by omega)
  obtain ⟨N, hN, hN9⟩ : ∃ N : Nat, a2.tmod 9 = (N : Int) ∧ N < 9 := by
    rw [Int.tmod_eq_emod_of_nonneg l2]
    exact ⟨(a2 % 9).toNat, by omega, by omega⟩
  clear w0 w1
  go_enter Try.func5, Try.ntmps5
  go_wp2_with fail
  refine (alive_any _).mono ?_
  rintro e v1 ⟨rfl, g1⟩
  have O1 : Hid (base.Own ⟨w, fun _ => none⟩ (v1.alloc (.cells #[.int .i64 1, .int .i64 2] 2)) [(v1.heap.size, 2, [.int .i64 1, .int .i64 2])]) := ((base.Own.start w).grown g1.out).alloc 2 [.int .i64 1, .int .i64 2]
  have A1 : Hid (IsRow .i64 (v1.alloc (.cells #[.int .i64 1, .int .i64 2] 2)) (some ⟨v1.heap.size, 0, none⟩) 2 2 (fun i => [1, 2].getD i 0)) := isRow_lit .i64 v1 [1, 2] 2 (by simp; decide) (by decide)
  clear g1
  go_wp2_with fail
  generalize v1.alloc _ = u1 at *
  generalize v1.heap.size = bf at *
  refine (plain_any 3 _).mono ?_
  rintro e v2 ⟨rfl, g2⟩
  have O2 := Lib.hid (O1.out.grown g2.out)
  have A2 := Lib.hid (A1.out.below (gb_below g2.out))
  clear O1 A1 g2
  go_wp2_with fail
  refine (NN.out _ _ A2.out (W0.out.below (gb_below O2.out.grow))).mono ?_
  rintro e v3 ⟨fa, ab, tb, cb, tk, ga, b0, Xa, rfl, hXa, hHa⟩
  have M3 := Lib.hid (hf_new O2.out hXa.out hHa.out)
  have A3 := Lib.hid (A2.out.below (gb_below hHa.out.grow))
  clear O2 A2 hXa hHa
  go_wp2_with fail
  refine (plain_any 3 _).mono ?_
  rintro e v4 ⟨rfl, g4⟩
  have M4 := Lib.hid (M3.out.grown firm_cel g4.out)
  have A4 := Lib.hid (A3.out.below (gb_below g4.out))
  clear M3 A3 g4
  go_wp2_with fail
  refine (NN.out _ _ A4.out (W0.out.below (gb_below M4.out.grow))).mono ?_
  rintro e v5 ⟨fb, ab', tb', cb', tk', gb, b0', Xb, rfl, hXb, hHb⟩
  have M5 : Hid (HFlo (Pair (CelP b0 cb tb ab 100 (firsts (fun i => [1, 2].getD i 0) 2) (heads 2) 0 (fun _ => false) (fun _ _ => 0) 100) (CelP b0' cb' tb' ab' 100 (firsts (fun i => [1, 2].getD i 0) 2) (heads 2) 0 (fun _ => false) (fun _ _ => 0) (100))) w v5 fa 3 (drawn z0 len0) (fun _ => 0) [] (⟨ab, tb, cb, tk, ga, 2, 100, 9, 4, 3, 0, false, 0, 0, fun _ => 0, 0⟩ : Core) (Xb ++ [(bf, 2, [.int .i64 1, .int .i64 2])])) := hf_join M4.out firm_cel hHb.out
  clear M4 A4 hHb NN
  go_wp2_with fail
  go_loopw [12] (fun iv wr => RelN (fun ev u => HFlo (Pair (CelP b0 cb tb ab 100 (firsts (fun i => [1, 2].getD i 0) 2) (heads 2) 0 (fun _ => false) (fun _ _ => 0) 100) (CelP b0' cb' tb' ab' 100 (firsts (fun i => [1, 2].getD i 0) 2) (heads 2) 0 (fun _ => false) (fun _ _ => 0) (100))) w u fa 3 (drawn z0 len0) (fun _ => 0) ev (⟨ab, tb, cb, tk, ga, 2, 100, 9, 4, 3, 0, false, 0, 0, fun _ => 0, 0⟩ : Core) (Xb ++ [(bf, 2, [.int .i64 1, .int .i64 2])])) z1 len1 iv wr) (fun iv _ => (len1 - intOf iv).toNat)
  case atStart => exact ⟨0, by omega, rfl, M5.out⟩
  case round =>
    obtain ⟨k, hk, rfl, M0⟩ := hrel
    have M : Hid (HFlo (Pair (CelP b0 cb tb ab 100 (firsts (fun i => [1, 2].getD i 0) 2) (heads 2) 0 (fun _ => false) (fun _ _ => 0) 100) (CelP b0' cb' tb' ab' 100 (firsts (fun i => [1, 2].getD i 0) 2) (heads 2) 0 (fun _ => false) (fun _ _ => 0) (100))) w wr fa 3 (drawn z0 len0) (fun _ => 0) (evs z1 k) (⟨ab, tb, cb, tk, ga, 2, 100, 9, 4, 3, 0, false, 0, 0, fun _ => 0, 0⟩ : Core) (Xb ++ [(bf, 2, [.int .i64 1, .int .i64 2])])) := M0
    clear M0 M5
    by_cases hlt : k < len1
    · have hlt' : (k : Int) < (len1 : Int) := by omega
      have G := Lib.hid M.out.grow
      obtain ⟨_, _, hx | ⟨b2, off2, rfl, hb2, hz2⟩⟩ := W1.out
      · exfalso; omega
      have e0 : wr.cell? ⟨b2, off2 + k * 7, none⟩ = some (.int .i64 (z1 k 0)) := G.out.cell (hz2 k 0 hlt (by omega)).1 (by simp)
      have e1 : wr.cell? ⟨b2, off2 + k * 7 + 1, none⟩ = some (.int .i64 (z1 k 1)) := G.out.cell (hz2 k 1 hlt (by omega)).1 (by simp)
      have e2 : wr.cell? ⟨b2, off2 + k * 7 + 2, none⟩ = some (.int .i64 (z1 k 2)) := G.out.cell (hz2 k 2 hlt (by omega)).1 (by simp)
      have e3 : wr.cell? ⟨b2, off2 + k * 7 + 3, none⟩ = some (.int .i64 (z1 k 3)) := G.out.cell (hz2 k 3 hlt (by omega)).1 (by simp)
      have e4 : wr.cell? ⟨b2, off2 + k * 7 + 4, none⟩ = some (.int .i64 (z1 k 4)) := G.out.cell (hz2 k 4 hlt (by omega)).1 (by simp)
      have e5 : wr.cell? ⟨b2, off2 + k * 7 + 5, none⟩ = some (.int .i64 (z1 k 5)) := G.out.cell (hz2 k 5 hlt (by omega)).1 (by simp)
      have e6 : wr.cell? ⟨b2, off2 + k * 7 + 6, none⟩ = some (.int .i64 (z1 k 6)) := G.out.cell (hz2 k 6 hlt (by omega)).1 (by simp)
      have NO := Lib.hid (note_h M.out (Firm.pair firm_cel firm_cel) (z1 k) (by rw [evs_length]; have := HL.out; omega))
      rw [evs_succ] at NO
      clear hz2
      go_wp2_with fail
      refine NO.out.mono ?_
      rintro e v6 ⟨rfl, M6⟩
      go_wp2
      go_roundw
      case rel => exact ⟨k + 1, by omega, by go_num, M6.out⟩
      case measure => simp [intOf]; omega
    · generalize evs z1 k = EV at *
      go_wp2_with fail
      refine (hf_ro M.out (Firm.pair firm_cel firm_cel) (fun _ F => table_in F)).mono ?_
      rintro e v ⟨rfl, rfl⟩
      go_wp2_with fail
      refine (begin_s M.out (steps_left firm_cel) (by decide) (by decide) (by decide) 4 rfl (by decide) (by decide) rfl).mono ?_
      rintro e x1 ⟨rfl, M1⟩
      clear M
      go_wp2_with fail
      refine (hf_ro M1.out (Firm.pair firm_cel firm_cel) (fun _ F => cells_in F)).mono ?_
      rintro e v ⟨rfl, rfl⟩
      go_wp2_with fail
      refine (version_s M1.out (steps_left firm_cel) (by decide) (by decide) 9 5 rfl (by decide)).mono ?_
      rintro e x2 ⟨rfl, M2⟩
      clear M1
      go_wp2_with fail
      refine (hf_ro M2.out (Firm.pair firm_cel firm_cel) (fun _ F => cells_in F)).mono ?_
      rintro e v ⟨rfl, rfl⟩
      go_wp2_with fail
      refine (load_s M2.out (steps_left firm_cel) (by decide) (by decide) 0 1 rfl).mono ?_
      rintro e x3 ⟨rfl, M3⟩
      clear M2
      go_wp2_with fail
      refine (hf_ro M3.out (Firm.pair firm_cel firm_cel) (fun _ F => cells_in F)).mono ?_
      rintro e v ⟨rfl, rfl⟩
      go_wp2_with fail
      refine (build_s M3.out (steps_left firm_cel) (by decide) (by decide) 4 5 5 (by decide) ⟨_, rfl, rfl⟩ ⟨_, rfl, rfl⟩ 6 rfl (by decide)).mono ?_
      rintro e x4 ⟨rfl, M4⟩
      clear M3
      go_wp2_with fail
      refine (hf_ro M4.out (Firm.pair firm_cel firm_cel) (fun _ F => cells_in F)).mono ?_
      rintro e v ⟨rfl, rfl⟩
      go_wp2_with fail
      refine (cswap_s M4.out (steps_left firm_cel) (by decide) (by decide) 0 1 6 rfl).mono ?_
      rintro e x5 ⟨rfl, M5⟩
      clear M4
      go_wp2_with fail
      refine (hf_ro M5.out (Firm.pair firm_cel firm_cel) (fun _ F => table_in F)).mono ?_
      rintro e v ⟨rfl, rfl⟩
      go_wp2_with fail
      refine (turn_s M5.out (steps_left firm_cel) (by decide) (by decide) 4 2 (by decide) rfl).mono ?_
      rintro e x6 ⟨rfl, M6⟩
      clear M5
      go_wp2_with fail
      refine (hf_ro M6.out (Firm.pair firm_cel firm_cel) (fun _ F => gate_in F)).mono ?_
      rintro e v ⟨rfl, rfl⟩
      go_wp2_with fail
      go_wp2_with fail
      refine (hf_ro M6.out (Firm.pair firm_cel firm_cel) (fun _ F => gate_in F)).mono ?_
      rintro e v ⟨rfl, rfl⟩
      go_wp2_with fail
      refine (see_h M6.out (Firm.pair firm_cel firm_cel) rfl (show (0 : Int) ≤ 999999 by decide)).mono ?_
      rintro e x7 ⟨rfl, M7⟩
      clear M6
      go_wp2_with fail
      refine (gswap_h M7.out (Firm.pair firm_cel firm_cel) 4 1 (by decide) (by decide) (by decide) (by decide) rfl rfl rfl (show (0 : Int) + 1 ≤ 999999 by decide)).mono ?_
      rintro e x8 ⟨rfl, M8⟩
      clear M7
      go_wp2_with fail
      refine (hf_ro M8.out (Firm.pair firm_cel firm_cel) (fun _ F => gate_in F)).mono ?_
      rintro e v ⟨rfl, rfl⟩
      go_wp2_with fail
      refine (beat_in_h M8.out (Firm.pair firm_cel firm_cel) 1 (by decide) (show (-9223372036854775808 : Int) ≤ 0 by decide) (show (0 : Int) ≤ 9223372036854775806 by decide)).mono ?_
      rintro e x9 ⟨rfl, M9⟩
      clear M8
      go_wp2_with fail
      refine (hf_ro M9.out (Firm.pair firm_cel firm_cel) (fun _ F => tickets_in F)).mono ?_
      rintro e v ⟨rfl, rfl⟩
      go_wp2_with fail
      refine (take_h M9.out (Firm.pair firm_cel firm_cel) (show (0 : Int) ≤ 0 by decide) (show (0 : Int) < 9 by decide) (show (9 : Int) ≤ 255 by decide)).mono ?_
      rintro e y1 ⟨rfl, K1⟩
      clear M9
      obtain ⟨C7, hcb, htb, K2⟩ : ∃ C7 : Core, Hid (C7.cb = cb) ∧ Hid (C7.tb = tb) ∧ Hid (HFlo (Pair (CelP b0 cb tb ab 100 ((((firsts (fun i => [1, 2].getD i 0) 2) ++ [(⟨3, 0, 0, 0, 0, 0, 0, 0, 0⟩ : ar.Rc)]) ++ [(⟨1, 9, 0, 0, 0, 0, 0, 0, 0⟩ : ar.Rc)]) ++ [(⟨2, 0, 4, 5, 5, 0, 0, 0, 0⟩ : ar.Rc)]) ((heads 2).set 0 6) (0 + 1) (more (fun _ => false) ((4 : Nat) : Int) true) (upd (more (fun _ _ => 0) ((4 : Nat) : Int) (fun c => if c = 0 then 1 else if c = 1 then 0 else 0)) 4 0 2) (100 + 100 + 100 + 100 + 100 + 100 + 100)) (CelP b0' cb' tb' ab' 100 (firsts (fun i => [1, 2].getD i 0) 2) (heads 2) 0 (fun _ => false) (fun _ _ => 0) (100))) w y1 fa 3 (drawn z0 len0) (fun _ => 0) EV C7 (Xb ++ [(bf, 2, [.int .i64 1, .int .i64 2])])) := by
        refine ⟨_, ?_, ?_, K1.out⟩
        · unfold Hid; rfl
        · unfold Hid; rfl
      clear K1
      go_wp2_with fail
      go_loopw [21] (fun iv wr => RelD (fun nx u => HFlo (Pair (CelP b0 cb tb ab 100 ((((firsts (fun i => [1, 2].getD i 0) 2) ++ [(⟨3, 0, 0, 0, 0, 0, 0, 0, 0⟩ : ar.Rc)]) ++ [(⟨1, 9, 0, 0, 0, 0, 0, 0, 0⟩ : ar.Rc)]) ++ [(⟨2, 0, 4, 5, 5, 0, 0, 0, 0⟩ : ar.Rc)]) ((heads 2).set 0 6) (0 + 1) (more (fun _ => false) ((4 : Nat) : Int) true) (upd (more (fun _ _ => 0) ((4 : Nat) : Int) (fun c => if c = 0 then 1 else if c = 1 then 0 else 0)) 4 0 2) (100 + 100 + 100 + 100 + 100 + 100 + 100)) (CelP b0' cb' tb' ab' 100 (firsts (fun i => [1, 2].getD i 0) 2) (heads 2) 0 (fun _ => false) (fun _ _ => 0) (100))) w u fa 3 (drawn z0 len0) nx EV C7 (Xb ++ [(bf, 2, [.int .i64 1, .int .i64 2])])) N iv wr) (fun iv _ => (N - intOf iv).toNat)
      case atStart => exact ⟨0, fun _ => 0, by omega, rfl, K2.out⟩
      case round =>
        obtain ⟨i, nx, hi, rfl, M0⟩ := hrel
        have K : Hid (HFlo (Pair (CelP b0 cb tb ab 100 ((((firsts (fun i => [1, 2].getD i 0) 2) ++ [(⟨3, 0, 0, 0, 0, 0, 0, 0, 0⟩ : ar.Rc)]) ++ [(⟨1, 9, 0, 0, 0, 0, 0, 0, 0⟩ : ar.Rc)]) ++ [(⟨2, 0, 4, 5, 5, 0, 0, 0, 0⟩ : ar.Rc)]) ((heads 2).set 0 6) (0 + 1) (more (fun _ => false) ((4 : Nat) : Int) true) (upd (more (fun _ _ => 0) ((4 : Nat) : Int) (fun c => if c = 0 then 1 else if c = 1 then 0 else 0)) 4 0 2) (100 + 100 + 100 + 100 + 100 + 100 + 100)) (CelP b0' cb' tb' ab' 100 (firsts (fun i => [1, 2].getD i 0) 2) (heads 2) 0 (fun _ => false) (fun _ _ => 0) (100))) w wr fa 3 (drawn z0 len0) nx EV C7 (Xb ++ [(bf, 2, [.int .i64 1, .int .i64 2])])) := M0
        clear M0 K2
        by_cases hlt : i < N
        · have hlt' : (i : Int) < (N : Int) := by omega
          have DR := Lib.hid (draw_any_h K.out (Firm.pair firm_cel firm_cel) 1 (by decide) D8.out)
          go_wp2_with fail
          refine DR.out.mono ?_
          rintro e y2 ⟨x, nx', rfl, K3⟩
          go_wp2
          go_roundw
          case rel => exact ⟨i + 1, nx', by omega, by go_num, K3.out⟩
          case measure => simp [intOf]; omega
        · have hlt' : ¬ (i : Int) < (N : Int) := by omega
          have FP : Hid (∀ B B', Firm (Pair (CelP b0 cb tb ab 100 ((((firsts (fun i => [1, 2].getD i 0) 2) ++ [(⟨3, 0, 0, 0, 0, 0, 0, 0, 0⟩ : ar.Rc)]) ++ [(⟨1, 9, 0, 0, 0, 0, 0, 0, 0⟩ : ar.Rc)]) ++ [(⟨2, 0, 4, 5, 5, 0, 0, 0, 0⟩ : ar.Rc)]) ((heads 2).set 0 6) (0 + 1) (more (fun _ => false) ((4 : Nat) : Int) true) (upd (more (fun _ _ => 0) ((4 : Nat) : Int) (fun c => if c = 0 then 1 else if c = 1 then 0 else 0)) 4 0 2) (B)) (CelP b0' cb' tb' ab' 100 (firsts (fun i => [1, 2].getD i 0) 2) (heads 2) 0 (fun _ => false) (fun _ _ => 0) (B')))) := fun B B' => Firm.pair firm_cel firm_cel
          have fS : ∀ u : World, (Instr.field 58 (.agg #[.bool false, .int .i64 0, .int .i64 0, .int .i64 0]) 0).run Try.prog u = .ok (.bool false) u := fun _ => by kernel_rfl
          by_cases hz : 0 < len0
          · have hzi : (0 : Int) < (len0 : Int) := by omega
            obtain ⟨_, _, hx | ⟨b3, off3, rfl, hb3, hz3⟩⟩ := W0.out
            · exfalso; omega
            have hq := hz3 0 hz
            have hq8 := bounds_u8 hq.2
            have cq : wr.cell? ⟨b3, off3, none⟩ = some (.int .u8 (z0 0)) := K.out.grow.cell hq.1 (by simp)
            have hcq : IntKind.i64.wrap (z0 0) = z0 0 := IntWalk.i64_in _ (by omega)
            have HX := Lib.hid (show (drawn z0 len0)[0]? = some (z0 0) ∧ 0 ≤ z0 0 ∧ z0 0 ≤ 255 from ⟨drawn_get z0 len0 0 hz, hq8⟩)
            generalize z0 0 = xx at *
            clear hq hz3
            go_wp2_with fail
            refine (values_s K.out (FP.out _ _) hcb.out htb.out (steps_left firm_cel) (by decide) (by decide) [9, 2] 2 rfl rfl (by decide) valA).mono ?_
            rintro e y3 ⟨va, vc, rfl, VR, K3⟩
            have VA : Hid (vl.Rd (y3.alloc (.cells #[.int .i64 9, .int .i64 2] 2)) va [9, 2]) := VR.out.grown (World.grownBy_alloc _ _ none) (by simp)
            have VB : Hid (vl.Rd (y3.alloc (.cells #[.int .i64 9, .int .i64 2] 2)) (some ⟨y3.heap.size, 0, none⟩) [9, 2]) := rd_lit y3 [9, 2] 2
            have K4 : Hid (HFlo (Pair (CelP b0 cb tb ab 100 ((((firsts (fun i => [1, 2].getD i 0) 2) ++ [(⟨3, 0, 0, 0, 0, 0, 0, 0, 0⟩ : ar.Rc)]) ++ [(⟨1, 9, 0, 0, 0, 0, 0, 0, 0⟩ : ar.Rc)]) ++ [(⟨2, 0, 4, 5, 5, 0, 0, 0, 0⟩ : ar.Rc)]) ((heads 2).set 0 6) (0 + 1) (more (fun _ => false) ((4 : Nat) : Int) true) (upd (more (fun _ _ => 0) ((4 : Nat) : Int) (fun c => if c = 0 then 1 else if c = 1 then 0 else 0)) 4 0 2) (100 + 100 + 100 + 100 + 100 + 100 + 100 + 100)) (CelP b0' cb' tb' ab' 100 (firsts (fun i => [1, 2].getD i 0) 2) (heads 2) 0 (fun _ => false) (fun _ _ => 0) (100))) w (y3.alloc (.cells #[.int .i64 9, .int .i64 2] 2)) fa 3 (drawn z0 len0) nx EV C7 (Xb ++ [(bf, 2, [.int .i64 1, .int .i64 2])])) := K3.out.grown (FP.out _ _) (World.grownBy_alloc _ _ none)
            clear K3 VR
            go_wp2_with fail
            generalize y3.alloc _ = y4 at *
            refine (vl.vals_true va _ [9, 2] 2 rfl vc 2 _ VA.out VB.out (by decide)).mono ?_
            rintro e y5 ⟨q5, rfl, hy5⟩
            have K5 : Hid (HFlo (Pair (CelP b0 cb tb ab 100 ((((firsts (fun i => [1, 2].getD i 0) 2) ++ [(⟨3, 0, 0, 0, 0, 0, 0, 0, 0⟩ : ar.Rc)]) ++ [(⟨1, 9, 0, 0, 0, 0, 0, 0, 0⟩ : ar.Rc)]) ++ [(⟨2, 0, 4, 5, 5, 0, 0, 0, 0⟩ : ar.Rc)]) ((heads 2).set 0 6) (0 + 1) (more (fun _ => false) ((4 : Nat) : Int) true) (upd (more (fun _ _ => 0) ((4 : Nat) : Int) (fun c => if c = 0 then 1 else if c = 1 then 0 else 0)) 4 0 2) (100 + 100 + 100 + 100 + 100 + 100 + 100 + 100)) (CelP b0' cb' tb' ab' 100 (firsts (fun i => [1, 2].getD i 0) 2) (heads 2) 0 (fun _ => false) (fun _ _ => 0) (100))) w y5 fa 3 (drawn z0 len0) nx EV C7 (Xb ++ [(bf, 2, [.int .i64 1, .int .i64 2])])) := by rw [← hy5]; exact K4.out.drewN (FP.out _ _) q5
            obtain ⟨Xa', hXa', kb⟩ := hf_turn K5.out hXb.out
            have B0 := Lib.hid kb
            clear K4 K5 VA VB hy5 kb hXa'
            go_wp2_with fail
            refine (values_s B0.out (FP.out _ _) rfl rfl (steps_right firm_cel) (by decide) (by decide) [1, 2] 2 rfl rfl (by decide) valB).mono ?_
            rintro e y6 ⟨vb, vd, rfl, VR, B1⟩
            have RF := Lib.hid (hf_rd (l := [1, 2]) (hf_drop B1.out) (FP.out _ _) rfl)
            clear B0
            go_wp2_with fail
            refine (vl.vals_true vb _ [1, 2] 2 rfl vd 2 _ VR.out RF.out (by decide)).mono ?_
            rintro e y7 ⟨q7, rfl, hy7⟩
            have B2 : Hid (HFlo (Pair (CelP b0 cb tb ab 100 ((((firsts (fun i => [1, 2].getD i 0) 2) ++ [(⟨3, 0, 0, 0, 0, 0, 0, 0, 0⟩ : ar.Rc)]) ++ [(⟨1, 9, 0, 0, 0, 0, 0, 0, 0⟩ : ar.Rc)]) ++ [(⟨2, 0, 4, 5, 5, 0, 0, 0, 0⟩ : ar.Rc)]) ((heads 2).set 0 6) (0 + 1) (more (fun _ => false) ((4 : Nat) : Int) true) (upd (more (fun _ _ => 0) ((4 : Nat) : Int) (fun c => if c = 0 then 1 else if c = 1 then 0 else 0)) 4 0 2) (100 + 100 + 100 + 100 + 100 + 100 + 100 + 100)) (CelP b0' cb' tb' ab' 100 (firsts (fun i => [1, 2].getD i 0) 2) (heads 2) 0 (fun _ => false) (fun _ _ => 0) (100 + 100))) w y7 fb 3 (drawn z0 len0) (fun _ => 0) [] (⟨ab', tb', cb', tk', gb, 2, 100, 9, 4, 3, 0, false, 0, 0, fun _ => 0, 0⟩ : Core) (Xa' ++ [(bf, 2, [.int .i64 1, .int .i64 2])])) := by rw [← hy7]; exact B1.out.drewN (FP.out _ _) q7
            clear B1 VR RF hy7
            go_wp2_with fail
            refine (trace_h B2.out (FP.out _ _) (by simp)).mono ?_
            rintro e y8 ⟨ta, tc, rfl, B3⟩
            clear B2
            go_wp2_with fail
            refine (hf_ro B3.out (FP.out _ _) (fun _ F => table_in F)).mono ?_
            rintro e v ⟨rfl, rfl⟩
            obtain ⟨F3, c3⟩ := cel_s B3.out (steps_right firm_cel)
            have CT := Lib.hid (cel_count c3)
            have LN := Lib.hid (cel_len c3)
            rw [firsts_length] at LN
            clear c3
            go_wp2_with fail
            refine (CT.out).mono ?_
            rintro e v ⟨rfl, rfl⟩
            go_wp2_with fail
            refine (hf_ro B3.out (FP.out _ _) (fun _ F => tickets_in F)).mono ?_
            rintro e v ⟨rfl, rfl⟩
            go_wp2_with fail
            refine (hf_ro B3.out (FP.out _ _) (fun _ F => flo_taken F)).mono ?_
            rintro e v ⟨rfl, rfl⟩
            go_wp2_with fail
            refine (hf_ro B3.out (FP.out _ _) (fun _ F => gate_in F)).mono ?_
            rintro e v ⟨rfl, rfl⟩
            go_wp2_with fail
            refine (pulse_h B3.out (FP.out _ _) 1 (by decide)).mono ?_
            rintro e v ⟨rfl, rfl⟩
            go_wp2_with fail
            refine (hf_ro B3.out (FP.out _ _) (fun _ F => arena_in F)).mono ?_
            rintro e v ⟨rfl, rfl⟩
            go_wp2_with fail
            refine (LN.out).mono ?_
            rintro e v ⟨rfl, rfl⟩
            go_wp2_with fail
            refine (hf_ro B3.out (FP.out _ _) (fun _ F => gate_in F)).mono ?_
            rintro e v ⟨rfl, rfl⟩
            go_wp2_with fail
            refine (see_h B3.out (FP.out _ _) rfl (show (0 : Int) ≤ 999999 by decide)).mono ?_
            rintro e y9 ⟨rfl, B4⟩
            clear B3
            go_wp2_with fail
            refine (draw_h B4.out (FP.out _ _) 1 (by decide) xx HX.out.1 HX.out.2).mono ?_
            rintro e t1 ⟨rfl, B5⟩
            go_wp2
            go_ret
            exact ⟨rfl, gb_below B5.out.grow⟩
          · have hzi : ¬ (0 : Int) < (len0 : Int) := by omega
            have HZ := Lib.hid (show (drawn z0 len0).length = 0 by rw [drawn_length]; omega)
            clear hz
            go_wp2_with fail
            refine (values_s K.out (FP.out _ _) hcb.out htb.out (steps_left firm_cel) (by decide) (by decide) [9, 2] 2 rfl rfl (by decide) valA).mono ?_
            rintro e y3 ⟨va, vc, rfl, VR, K3⟩
            have VA : Hid (vl.Rd (y3.alloc (.cells #[.int .i64 9, .int .i64 2] 2)) va [9, 2]) := VR.out.grown (World.grownBy_alloc _ _ none) (by simp)
            have VB : Hid (vl.Rd (y3.alloc (.cells #[.int .i64 9, .int .i64 2] 2)) (some ⟨y3.heap.size, 0, none⟩) [9, 2]) := rd_lit y3 [9, 2] 2
            have K4 : Hid (HFlo (Pair (CelP b0 cb tb ab 100 ((((firsts (fun i => [1, 2].getD i 0) 2) ++ [(⟨3, 0, 0, 0, 0, 0, 0, 0, 0⟩ : ar.Rc)]) ++ [(⟨1, 9, 0, 0, 0, 0, 0, 0, 0⟩ : ar.Rc)]) ++ [(⟨2, 0, 4, 5, 5, 0, 0, 0, 0⟩ : ar.Rc)]) ((heads 2).set 0 6) (0 + 1) (more (fun _ => false) ((4 : Nat) : Int) true) (upd (more (fun _ _ => 0) ((4 : Nat) : Int) (fun c => if c = 0 then 1 else if c = 1 then 0 else 0)) 4 0 2) (100 + 100 + 100 + 100 + 100 + 100 + 100 + 100)) (CelP b0' cb' tb' ab' 100 (firsts (fun i => [1, 2].getD i 0) 2) (heads 2) 0 (fun _ => false) (fun _ _ => 0) (100))) w (y3.alloc (.cells #[.int .i64 9, .int .i64 2] 2)) fa 3 (drawn z0 len0) nx EV C7 (Xb ++ [(bf, 2, [.int .i64 1, .int .i64 2])])) := K3.out.grown (FP.out _ _) (World.grownBy_alloc _ _ none)
            clear K3 VR
            go_wp2_with fail
            generalize y3.alloc _ = y4 at *
            refine (vl.vals_true va _ [9, 2] 2 rfl vc 2 _ VA.out VB.out (by decide)).mono ?_
            rintro e y5 ⟨q5, rfl, hy5⟩
            have K5 : Hid (HFlo (Pair (CelP b0 cb tb ab 100 ((((firsts (fun i => [1, 2].getD i 0) 2) ++ [(⟨3, 0, 0, 0, 0, 0, 0, 0, 0⟩ : ar.Rc)]) ++ [(⟨1, 9, 0, 0, 0, 0, 0, 0, 0⟩ : ar.Rc)]) ++ [(⟨2, 0, 4, 5, 5, 0, 0, 0, 0⟩ : ar.Rc)]) ((heads 2).set 0 6) (0 + 1) (more (fun _ => false) ((4 : Nat) : Int) true) (upd (more (fun _ _ => 0) ((4 : Nat) : Int) (fun c => if c = 0 then 1 else if c = 1 then 0 else 0)) 4 0 2) (100 + 100 + 100 + 100 + 100 + 100 + 100 + 100)) (CelP b0' cb' tb' ab' 100 (firsts (fun i => [1, 2].getD i 0) 2) (heads 2) 0 (fun _ => false) (fun _ _ => 0) (100))) w y5 fa 3 (drawn z0 len0) nx EV C7 (Xb ++ [(bf, 2, [.int .i64 1, .int .i64 2])])) := by rw [← hy5]; exact K4.out.drewN (FP.out _ _) q5
            obtain ⟨Xa', hXa', kb⟩ := hf_turn K5.out hXb.out
            have B0 := Lib.hid kb
            clear K4 K5 VA VB hy5 kb hXa'
            go_wp2_with fail
            refine (values_s B0.out (FP.out _ _) rfl rfl (steps_right firm_cel) (by decide) (by decide) [1, 2] 2 rfl rfl (by decide) valB).mono ?_
            rintro e y6 ⟨vb, vd, rfl, VR, B1⟩
            have RF := Lib.hid (hf_rd (l := [1, 2]) (hf_drop B1.out) (FP.out _ _) rfl)
            clear B0
            go_wp2_with fail
            refine (vl.vals_true vb _ [1, 2] 2 rfl vd 2 _ VR.out RF.out (by decide)).mono ?_
            rintro e y7 ⟨q7, rfl, hy7⟩
            have B2 : Hid (HFlo (Pair (CelP b0 cb tb ab 100 ((((firsts (fun i => [1, 2].getD i 0) 2) ++ [(⟨3, 0, 0, 0, 0, 0, 0, 0, 0⟩ : ar.Rc)]) ++ [(⟨1, 9, 0, 0, 0, 0, 0, 0, 0⟩ : ar.Rc)]) ++ [(⟨2, 0, 4, 5, 5, 0, 0, 0, 0⟩ : ar.Rc)]) ((heads 2).set 0 6) (0 + 1) (more (fun _ => false) ((4 : Nat) : Int) true) (upd (more (fun _ _ => 0) ((4 : Nat) : Int) (fun c => if c = 0 then 1 else if c = 1 then 0 else 0)) 4 0 2) (100 + 100 + 100 + 100 + 100 + 100 + 100 + 100)) (CelP b0' cb' tb' ab' 100 (firsts (fun i => [1, 2].getD i 0) 2) (heads 2) 0 (fun _ => false) (fun _ _ => 0) (100 + 100))) w y7 fb 3 (drawn z0 len0) (fun _ => 0) [] (⟨ab', tb', cb', tk', gb, 2, 100, 9, 4, 3, 0, false, 0, 0, fun _ => 0, 0⟩ : Core) (Xa' ++ [(bf, 2, [.int .i64 1, .int .i64 2])])) := by rw [← hy7]; exact B1.out.drewN (FP.out _ _) q7
            clear B1 VR RF hy7
            go_wp2_with fail
            refine (trace_h B2.out (FP.out _ _) (by simp)).mono ?_
            rintro e y8 ⟨ta, tc, rfl, B3⟩
            clear B2
            go_wp2_with fail
            refine (hf_ro B3.out (FP.out _ _) (fun _ F => table_in F)).mono ?_
            rintro e v ⟨rfl, rfl⟩
            obtain ⟨F3, c3⟩ := cel_s B3.out (steps_right firm_cel)
            have CT := Lib.hid (cel_count c3)
            have LN := Lib.hid (cel_len c3)
            rw [firsts_length] at LN
            clear c3
            go_wp2_with fail
            refine (CT.out).mono ?_
            rintro e v ⟨rfl, rfl⟩
            go_wp2_with fail
            refine (hf_ro B3.out (FP.out _ _) (fun _ F => tickets_in F)).mono ?_
            rintro e v ⟨rfl, rfl⟩
            go_wp2_with fail
            refine (hf_ro B3.out (FP.out _ _) (fun _ F => flo_taken F)).mono ?_
            rintro e v ⟨rfl, rfl⟩
            go_wp2_with fail
            refine (hf_ro B3.out (FP.out _ _) (fun _ F => gate_in F)).mono ?_
            rintro e v ⟨rfl, rfl⟩
            go_wp2_with fail
            refine (pulse_h B3.out (FP.out _ _) 1 (by decide)).mono ?_
            rintro e v ⟨rfl, rfl⟩
            go_wp2_with fail
            refine (hf_ro B3.out (FP.out _ _) (fun _ F => arena_in F)).mono ?_
            rintro e v ⟨rfl, rfl⟩
            go_wp2_with fail
            refine (LN.out).mono ?_
            rintro e v ⟨rfl, rfl⟩
            go_wp2_with fail
            refine (hf_ro B3.out (FP.out _ _) (fun _ F => gate_in F)).mono ?_
            rintro e v ⟨rfl, rfl⟩
            go_wp2_with fail
            refine (see_h B3.out (FP.out _ _) rfl (show (0 : Int) ≤ 999999 by decide)).mono ?_
            rintro e y9 ⟨rfl, B4⟩
            clear B3
            go_wp2_with fail
            refine (draw_none B4.out (FP.out _ _) 1 HZ.out).mono ?_
            rintro e v ⟨rfl, rfl⟩
            go_wp2
            go_ret
            exact ⟨rfl, gb_below B4.out.grow⟩

theorem walk (a0 : Option Addr) (len0 cap0 : Nat) (z0 : Nat → Int) (a1 : Option Addr) (len1 cap1 : Nat) (z1 : Nat → Nat → Int) (a2 : Int) (w : World) (w0 : IsRow .u8 w a0 len0 cap0 z0) (w1 : IsInts 7 w a1 len1 cap1 z1) (w2 : (Lit.int .u8 a2).wf = true) : Calls Try.prog 5 #[.slice a0 len0 cap0, .slice a1 len1 cap1, .int .u8 a2] w fun e w' => e = .returned (.bool true) ∧ Below w.heap.size w w' := by
  have := bounds_u8 w2
  by_cases h0 : 50 < (len0 : Int)
  · exact walk_out _ _ _ _ _ _ _ w h0
  · by_cases h1 : 50 < (len1 : Int)
    · exact walk_out2 _ _ _ _ _ _ _ w h0 h1
    · exact walkIn _ _ _ z0 _ _ _ z1 a2 w w0 w1 (by omega) (by omega) h0 h1

theorem own : ownKnob Try.prog.godebug = none := by kernel_rfl
theorem laidOut : laidOutB Try.prog = true := by kernel_rfl

/-! ### THE ROW's STEP, as the guide has it -/
set_option maxRecDepth 100000 in
theorem lifted (os : Os) (started : os.Started) (H : Type) (enc : TypeId × Value → H) :
    ReturnsInHanded {} Try.checked os 5 .any (Rows.floorOwnSpec.pre6 enc Try.prog Try.f5 Rows.floorOwnRow.domain false) (Rows.floorOwnSpec.post enc Try.prog Try.f5 false true false false) := by
  refine returnsInHanded_of_change (C := Try.checked) own started (by kernel_rfl) Try.func5
    (ChangeSpec.witness6 (enc := enc) (C := Try.checked) false ⟨#[], #[.slice none 0 0, .slice none 0 0, .int .u8 0], []⟩ 8 (by kernel_rfl) (by kernel_rfl) (by kernel_rfl) (by kernel_rfl)) ?_
  intro W base args ds gs before hval0 hW hcnd _
  have hval : ∀ (j : Nat) t v, Try.f5.params[j]? = some t → args[j]? = some v → Value.okWide Try.prog W .any base t v := hval0
  have hW' := hW
  obtain ⟨p, q, hA0, hV, rfl, hfz, hnd⟩ := hW
  have hA : DataW.TrodAll enc Try.prog W 0 (fun _ => true) true Try.f5.params.toList args.toList ds p := hA0
  rw [Try.params5] at hA hval
  obtain ⟨v0, vs0, d0, ds0, p0, q0, hargs, rfl, rfl, h0, r0⟩ := trodAll_cons hA
  obtain ⟨v1, vs1, d1, ds1, p1, q1, rfl, rfl, rfl, h1, r1⟩ := trodAll_cons r0
  obtain ⟨v2, vs2, d2, ds2, p2, q2, rfl, rfl, rfl, h2, r2⟩ := trodAll_cons r1
  obtain ⟨rfl, rfl, rfl⟩ := trodAll_nil r2
  obtain rfl : args = #[v0, v1, v2] := by cases args; simp_all
  obtain ⟨rfl, rfl⟩ := trodVars_none hV
  obtain ⟨a0, len0, cap0, rfl⟩ := okWide_slice Try.underlying65 (hval 0 65 v0 rfl rfl)
  have k0 := h0
  have lt0 : ∀ x ∈ p0, x.block < W.heap.size := by obtain ⟨m, hm⟩ := k0; exact DataW.trod_lt m _ _ _ hm
  obtain ⟨z0, w0⟩ : ∃ z, IsRow .u8 W a0 len0 cap0 z := by
    obtain ⟨fuel, hf⟩ := h0
    exact isRow_of Try.underlying65 Try.underlying5 (by kernel_rfl) hf
  obtain ⟨a1, len1, cap1, rfl⟩ := okWide_slice Try.underlying44 (hval 1 44 v1 rfl rfl)
  have k1 := h1
  have lt1 : ∀ x ∈ p1, x.block < W.heap.size := by obtain ⟨m, hm⟩ := k1; exact DataW.trod_lt m _ _ _ hm
  obtain ⟨z1, w1⟩ : ∃ z, IsInts 7 W a1 len1 cap1 z := by
    obtain ⟨fuel, hf⟩ := h1
    exact isMixed_of Try.underlying44 Try.underlying23 Try.underlying3 Try.underlying2 (by kernel_rfl) (by kernel_rfl) (by kernel_rfl) (by decide) (by decide) hf
  obtain ⟨a2, rfl, rfl, rfl, w2⟩ := open_int Try.underlying5 (hval 2 5 v2 rfl rfl) h2
  clear hA0 hval0
  refine (walk a0 len0 cap0 z0 a1 len1 cap1 z1 a2 W w0 w1 w2).mono fun e W' ⟨he, bel⟩ => ?_
  subst he
  exact ⟨_, rfl, _, _, _, [], _, [], hW', trodAll_mk1 (shut_bool Try.underlying4 _), (trodAll_cons_mk (Below.trod laidOut (by kernel_rfl) (of_decide_eq_true (by kernel_rfl)) k0 bel lt0) (trodAll_cons_mk (Below.trod laidOut (by kernel_rfl) (of_decide_eq_true (by kernel_rfl)) k1 bel lt1) (trodAll_cons_mk (shut_int Try.underlying5 w2) trodAll_mk0))), rfl, bel.frame _, fun h => by cases h⟩

theorem over : Rows.floorOwnRow.holds Try.pinned (OpenSpec.ofChange Rows.floorOwnSpec) :=
  OpenClaim.holds_of_wide 5 Try.f5 rfl rfl rfl rfl rfl rfl rfl ⟨rfl, rfl, rfl, rfl, rfl⟩ rfl rfl rfl rfl rfl (by kernel_rfl) Try.func5 (by kernel_rfl)
    (of_decide_eq_true (by kernel_rfl)) (by unfold Func.isWrapper; first | (rw [if_pos (by decide +kernel)]; kernel_rfl) | (rw [if_neg (by decide +kernel)]; exact ⟨rfl, rfl⟩))
    (fun os started H enc _ => lifted os started H enc)

theorem proved : Rows.FloorOwnSaid := over
#print axioms proved
end Go.Proofs.Ytocjbbfeegmkaaa.floorOwn
