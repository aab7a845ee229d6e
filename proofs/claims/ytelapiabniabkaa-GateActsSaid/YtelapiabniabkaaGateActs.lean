/-
  GateActs: whoever swaps, leaves and beats, each answer, the sight, and the pulses, are the document's all along; for any number of threads and any list of acts; with a number of threads that is not from 1 to 6 there is no gate.
  Conditions: none (of a list of more than 200 acts, and behind an act of a stamp beyond 1<<40, the law says nothing by itself).
-/
import Derived.Test.YtelapiabniabkaaRows
import Derived.Test.YtelapiabniabkaaOpen
import Derived.Test.YtelapiabniabkaaOpenB
import Derived.Test.YtelapiabniabkaaGtD
import Derived.Deep.CutRange
import Derived.Deep.CutBlock
import Derived.Deep.DeepCutAuto
namespace Go.Proofs.Ytelapiabniabkaa.gateActs
open Go.ChangeShapes Go.WideShapes Go.ChangeAt Go.RowKit Go.Proofs.Ytelapiabniabkaa.base Go.Proofs.Ytelapiabniabkaa.ch Go.Proofs.Ytelapiabniabkaa.gate
set_option linter.unusedVariables false

/-- At the head of a round: k acts were done; the gate and the document's have the same senior, and the same pulses. -/
def Rel (w : World) (g vb vp N : Nat) (len : Nat) (iv : Value) (wr : World) : Prop :=
  ∃ (k : Nat) (b : Bool) (s t : Int) (z : Nat → Int), k ≤ len ∧ iv = .int .i64 k ∧ (∀ j, 0 ≤ z j ∧ z j ≤ k) ∧ Gt w wr g N b s t z (2 * (k : Int)) [(vb, 31, [.bool b, .int .i64 s, .int .i64 t, .slice (some ⟨vp, 0, none⟩) N N]), (vp, 3, vals z N)]

/-- Behind the act. -/
def Acted (w : World) (g vb vp N ab : Nat) (k : Nat) (K st th se by_ : Int) (wr : World) : Prop :=
  ∃ (b : Bool) (s t : Int) (z : Nat → Int), (∀ j, 0 ≤ z j ∧ z j ≤ (k : Int) + 1) ∧ Gt w wr g N b s t z (2 * (k : Int) + 1) [(ab, 33, [.int .i64 K, .int .i64 st, .int .i64 th, .int .i64 se, .int .i64 by_]), (vb, 31, [.bool b, .int .i64 s, .int .i64 t, .slice (some ⟨vp, 0, none⟩) N N]), (vp, 3, vals z N)]

theorem num_le {n : Nat} {b : Bool} {s t num : Int} (h : Num n b s t num) : s ≤ 1099511627776 := by
  rcases h with ⟨_, h1, _⟩ | ⟨_, _, h1, _⟩ <;> omega
theorem num_zero {n : Nat} {b : Bool} {s t num : Int} (h : Num n b s t num) : b = false → s = 0 ∧ t = 0 := by
  rintro rfl
  rcases h with ⟨_, h1, h2, _⟩ | ⟨h1, _⟩
  · exact ⟨h1, h2⟩
  · cases h1

set_option maxRecDepth 100000 in
theorem walk_out (a0 : Int) (a1 : Option Addr) (len1 cap1 : Nat) (w : World) (h : 200 < (len1 : Int)) : Calls Try.prog 3 #[.int .i64 a0, .slice a1 len1 cap1] w fun e w' => e = .returned (.bool true) ∧ Below w.heap.size w w' := by
  go_enter Try.func3, Try.ntmps3
  go_wp2_with fail
  refine (alive_any _).mono ?_
  rintro e v1 ⟨rfl, g1⟩
  go_wp2
  go_ret
  exact ⟨rfl, gb_below g1.out⟩

set_option maxRecDepth 100000 in
theorem walk_bad (a0 : Int) (a1 : Option Addr) (len1 cap1 : Nat) (w : World) (h : ¬ 200 < (len1 : Int)) (hb : a0 < 1 ∨ 6 < a0) : Calls Try.prog 3 #[.int .i64 a0, .slice a1 len1 cap1] w fun e w' => e = .returned (.bool true) ∧ Below w.heap.size w w' := by
  have HB := Lib.hid hb
  have hb' : a0 < 1 ∨ (¬ a0 < 1 ∧ 6 < a0) := by omega
  clear hb
  rcases hb' with h1 | ⟨h1, h2⟩
  all_goals
    go_enter Try.func3, Try.ntmps3
    go_wp2_with fail
    refine (alive_any _).mono ?_
    rintro e v1 ⟨rfl, g1⟩
    go_wp2_with fail
    refine (new_bad a0 HB.out _).mono ?_
    rintro e v2 ⟨rfl, rfl⟩
    go_wp2
    go_ret
    exact ⟨rfl, gb_below g1.out⟩

set_option maxRecDepth 100000 in
set_option maxHeartbeats 4000000 in
theorem walkIn (N : Nat) (a1 : Option Addr) (len1 cap1 : Nat) (z1 : Nat → Nat → Int) (w : World) (w1 : IsInts 5 w a1 len1 cap1 z1) (h : ¬ 200 < (len1 : Int)) (hN : 1 ≤ N) (hN6 : N ≤ 6) : Calls Try.prog 3 #[.int .i64 (N : Int), .slice a1 len1 cap1] w fun e w' => e = .returned (.bool true) ∧ Below w.heap.size w w' := by
  have W1 := Lib.hid w1
  have hn := Lib.hid (show 1 ≤ N ∧ N ≤ 6 from ⟨hN, hN6⟩)
  have d1 : decide ((N : Int) < 1) = false := by simp; omega
  have d2 : decide (6 < (N : Int)) = false := by simp; omega
  have hmk := run_make_row' (P := Try.prog) 29 3 (.int .i64 0) 8 Try.underlying29 infoInt rfl .i64 .i64 N (by omega) (by omega)
  rw [made_vals] at hmk
  clear w1 hN hN6
  go_enter Try.func3, Try.ntmps3
  go_wp2_with fail
  refine (alive_any _).mono ?_
  rintro e v1 ⟨rfl, g1⟩
  have M1 := Lib.hid ((Own.start w).grown g1.out)
  clear g1
  go_wp2_with fail
  refine (new_any N hn.out.1 hn.out.2 w _ [] M1.out).mono ?_
  rintro e v2 ⟨g, rfl, M2⟩
  clear M1
  go_wp2
  have M3 := Lib.hid ((M2.out.alloc 3 (vals (fun _ => 0) N)).alloc 31 [.bool false, .int .i64 0, .int .i64 0, .slice (some ⟨v2.heap.size, 0, none⟩) N N])
  simp only [size_alloc] at M3
  generalize v2.heap.size + 1 = vb at *
  generalize v2.heap.size = vp at *
  generalize (v2.alloc _).alloc _ = v3 at *
  clear hmk M2
  have M5 := M3
  go_loopw [8] (fun iv wr => Rel w g vb vp N len1 iv wr) (fun iv _ => (len1 - intOf iv).toNat)
  case atStart => exact ⟨0, false, 0, 0, fun _ => 0, by omega, rfl, fun _ => ⟨by simp, by simp⟩, M5.out.le (by omega)⟩
  case round =>
    obtain ⟨k, b, s, t, z, hk, rfl, hz, M0⟩ := hrel
    have M6 := Lib.hid M0
    have HZ := Lib.hid hz
    clear M0 M3 hz
    by_cases hlt : k < len1
    · obtain ⟨_, _, hx | ⟨b2, off2, rfl, hb2, hz2⟩⟩ := W1.out
      · exfalso; omega
      have h0 : wr.cell? ⟨b2, off2 + k * 5, none⟩ = some (.int .i64 (z1 k 0)) := M6.out.old (hz2 k 0 hlt (by omega)).1
      have h1 : wr.cell? ⟨b2, off2 + k * 5 + 1, none⟩ = some (.int .i64 (z1 k 1)) := M6.out.old (hz2 k 1 hlt (by omega)).1
      have h2 : wr.cell? ⟨b2, off2 + k * 5 + 2, none⟩ = some (.int .i64 (z1 k 2)) := M6.out.old (hz2 k 2 hlt (by omega)).1
      have h3 : wr.cell? ⟨b2, off2 + k * 5 + 3, none⟩ = some (.int .i64 (z1 k 3)) := M6.out.old (hz2 k 3 hlt (by omega)).1
      have h4 : wr.cell? ⟨b2, off2 + k * 5 + 4, none⟩ = some (.int .i64 (z1 k 4)) := M6.out.old (hz2 k 4 hlt (by omega)).1
      have hlt' : (k : Int) < (len1 : Int) := by omega
      clear hz2
      generalize z1 k 0 = K at *
      generalize z1 k 1 = st at *
      generalize z1 k 2 = th at *
      generalize z1 k 3 = se at *
      generalize z1 k 4 = by_ at *
      go_upto_region 15 with fail
      have M7 := Lib.hid (M6.out.alloc 33 [.int .i64 K, .int .i64 st, .int .i64 th, .int .i64 se, .int .i64 by_])
      generalize wr.heap.size = ab at *
      generalize wr.alloc _ = v4 at *
      clear h0 h1 h2 h3 h4 M6
      have a0 := M7.out.cell 0 0 rfl rfl; have a1 := M7.out.cell 0 1 rfl rfl; have a2 := M7.out.cell 0 2 rfl rfl; have a3 := M7.out.cell 0 3 rfl rfl; have a4 := M7.out.cell 0 4 rfl rfl
      by_cases g1 : 1099511627776 < st
      · as_aux_lemma =>
          have hd : decide (1099511627776 < st) = true := by simpa using g1
          go_wp2_with fail
          refine (great_any st _).mono ?_
          rintro e u1 ⟨rfl, rfl⟩
          go_wp2
          go_ret
          exact ⟨rfl, M7.out.below⟩
      by_cases g2 : 1099511627776 < se
      · as_aux_lemma =>
          have hd : decide (1099511627776 < st) = false := by simpa using g1
          have hd2 : decide (1099511627776 < se) = true := by simpa using g2
          go_wp2_with fail
          refine (great_any st _).mono ?_
          rintro e u1 ⟨rfl, rfl⟩
          go_wp2_with fail
          refine (great_any se _).mono ?_
          rintro e u2 ⟨rfl, rfl⟩
          go_wp2
          go_ret
          exact ⟨rfl, M7.out.below⟩
      have hd : decide (1099511627776 < st) = false := by simpa using g1
      have hd2 : decide (1099511627776 < se) = false := by simpa using g2
      have G1 := Lib.hid (show st ≤ 1099511627776 ∧ se ≤ 1099511627776 from ⟨by omega, by omega⟩)
      clear g1 g2
      go_wp2_with fail
      refine (great_any st _).mono ?_
      rintro e u1 ⟨rfl, rfl⟩
      go_wp2_with fail
      refine (great_any se _).mono ?_
      rintro e u2 ⟨rfl, rfl⟩
      go_upto_region 17 with fail
      clear hd hd2
      go_cut [10] from 47 to 197 (fun tv wx => tv = .bool (decide (0 ≤ th ∧ th < (N : Int))) ∧ wx = v4)
      case first =>
        by_cases k1 : 0 ≤ th
        · have e1 : decide (0 ≤ th) = true := by simpa using k1
          go_wp2
          go_meet
          exact ⟨by simp [k1], rfl⟩
        · have e1 : decide (0 ≤ th) = false := by simpa using k1
          have e2 : decide (0 ≤ th ∧ th < (N : Int)) = false := decide_eq_false fun e => k1 e.1
          go_wp2
          go_meet
          exact ⟨by rw [e2], rfl⟩
      case rest =>
      obtain ⟨rfl, rfl⟩ := hcut
      generalize hTH : decide (0 ≤ th ∧ th < (N : Int)) = TH at *
      have HTH := Lib.hid hTH
      clear hTH
      go_upto_block 2 with fail
      go_cut [] from 47 to 197 (fun wx => Acted w g vb vp N ab k K st th se by_ wx)
      case first =>
        have a0 := M7.out.cell 0 0 rfl rfl; have a1 := M7.out.cell 0 1 rfl rfl; have a2 := M7.out.cell 0 2 rfl rfl; have a3 := M7.out.cell 0 3 rfl rfl; have a4 := M7.out.cell 0 4 rfl rfl
        obtain ⟨num, hnum, _⟩ := M7.out.num
        have HN := Lib.hid hnum
        clear hnum
        by_cases hK : K = 0
        · subst hK
          have v0 := M7.out.cell 1 0 rfl rfl; have v1 := M7.out.cell 1 1 rfl rfl; have v2 := M7.out.cell 1 2 rfl rfl; have v3 := M7.out.cell 1 3 rfl rfl
          have e1 := World.new_ne _ _ v0
          have e2 := World.new_ne _ _ a0
          have hal := M7.out.lt 0 rfl
          go_upto_region 20 with fail
          go_region_held3 (fun w' => w'.cell? ⟨vb, 0, none⟩ = some (.bool b) ∧ w'.cell? ⟨vb, 1, none⟩ = some (.int .i64 s) ∧ w'.cell? ⟨vb, 2, none⟩ = some (.int .i64 t)) (go_keep) (fail)
          go_upto_region 21 with fail
          have M8 := Lib.hid ((M7.out.alloc 36 [.bool b, .int .i64 s, .int .i64 t, .int .i64 99]).drew)
          generalize wc.heap.size = xb at *
          generalize (wc.alloc _).drew = v5 at *
          clear a0 a1 a2 a3 a4 v0 v1 v2 v3 e1 e2 hal M7
          have a0 := M8.out.cell 1 0 rfl rfl; have a1 := M8.out.cell 1 1 rfl rfl; have a2 := M8.out.cell 1 2 rfl rfl; have a3 := M8.out.cell 1 3 rfl rfl; have a4 := M8.out.cell 1 4 rfl rfl
          by_cases hse : se = 0
          · as_aux_lemma =>
              subst hse
              obtain ⟨r, b', s', t', HW, HF⟩ := swaps (w0 := w) (g := g) (z := z) (A := 2 * (k : Int)) vb vp b s t 99 st th (num_le HN.out) (num_zero HN.out) G1.out.1 num HN.out (by omega)
              have HW := Lib.hid HW
              have HF := Lib.hid HF
              clear a0 a1 a2 a3 a4
              have a0 := M8.out.cell 1 0 rfl rfl; have a1 := M8.out.cell 1 1 rfl rfl; have a2 := M8.out.cell 1 2 rfl rfl; have a3 := M8.out.cell 1 3 rfl rfl; have a4 := M8.out.cell 1 4 rfl rfl
              go_upto_region 23 with fail
              have m8xx0 := M8.out.cell 0 0 rfl rfl; have m8xx1 := M8.out.cell 0 1 rfl rfl; have m8xx2 := M8.out.cell 0 2 rfl rfl; have m8xx3 := M8.out.cell 0 3 rfl rfl
              have m8xa0 := M8.out.cell 1 0 rfl rfl; have m8xa1 := M8.out.cell 1 1 rfl rfl; have m8xa2 := M8.out.cell 1 2 rfl rfl; have m8xa3 := M8.out.cell 1 3 rfl rfl; have m8xa4 := M8.out.cell 1 4 rfl rfl
              go_region_held3 (fun w' => w'.cell? ⟨xb, 0, none⟩ = some (.bool b) ∧ w'.cell? ⟨xb, 1, none⟩ = some (.int .i64 s) ∧ w'.cell? ⟨xb, 2, none⟩ = some (.int .i64 t) ∧ w'.cell? ⟨xb, 3, none⟩ = some (.int .i64 99) ∧ w'.cell? ⟨ab, 0, none⟩ = some (.int .i64 0) ∧ w'.cell? ⟨ab, 1, none⟩ = some (.int .i64 st) ∧ w'.cell? ⟨ab, 2, none⟩ = some (.int .i64 th) ∧ w'.cell? ⟨ab, 3, none⟩ = some (.int .i64 0) ∧ w'.cell? ⟨ab, 4, none⟩ = some (.int .i64 by_)) (go_keep) (first | (go_at_call 12; first | (have X := HW.out _ _ M9.out; refine X.mono ?_; rintro e u7 ⟨rfl, M10⟩; have m10xx0 := M10.out.cell 0 0 rfl rfl; have m10xx1 := M10.out.cell 0 1 rfl rfl; have m10xx2 := M10.out.cell 0 2 rfl rfl; have m10xx3 := M10.out.cell 0 3 rfl rfl; have m10xa0 := M10.out.cell 1 0 rfl rfl; have m10xa1 := M10.out.cell 1 1 rfl rfl; have m10xa2 := M10.out.cell 1 2 rfl rfl; have m10xa3 := M10.out.cell 1 3 rfl rfl; have m10xa4 := M10.out.cell 1 4 rfl rfl) | (have X := HW.out _ _ M8.out.drew; refine X.mono ?_; rintro e u6 ⟨rfl, M9⟩; have m9xx0 := M9.out.cell 0 0 rfl rfl; have m9xx1 := M9.out.cell 0 1 rfl rfl; have m9xx2 := M9.out.cell 0 2 rfl rfl; have m9xx3 := M9.out.cell 0 3 rfl rfl; have m9xa0 := M9.out.cell 1 0 rfl rfl; have m9xa1 := M9.out.cell 1 1 rfl rfl; have m9xa2 := M9.out.cell 1 2 rfl rfl; have m9xa3 := M9.out.cell 1 3 rfl rfl; have m9xa4 := M9.out.cell 1 4 rfl rfl)) | (go_at_call 13; first | (have X := HF.out _ (M9.out.get 2 rfl); refine X.mono ?_; rintro e u7 ⟨rfl, V7, g7⟩; have M10 := Lib.hid (M9.out.change 2 rfl g7.out V7.out); clear V7 g7; (try simp only [List.set_cons_succ, List.set_cons_zero] at M10); have m10xx0 := M10.out.cell 0 0 rfl rfl; have m10xx1 := M10.out.cell 0 1 rfl rfl; have m10xx2 := M10.out.cell 0 2 rfl rfl; have m10xx3 := M10.out.cell 0 3 rfl rfl; have m10xa0 := M10.out.cell 1 0 rfl rfl; have m10xa1 := M10.out.cell 1 1 rfl rfl; have m10xa2 := M10.out.cell 1 2 rfl rfl; have m10xa3 := M10.out.cell 1 3 rfl rfl; have m10xa4 := M10.out.cell 1 4 rfl rfl) | (have X := HF.out _ (M8.out.drew.get 2 rfl); refine X.mono ?_; rintro e u6 ⟨rfl, V6, g6⟩; have M9 := Lib.hid (M8.out.drew.change 2 rfl g6.out V6.out); clear V6 g6; (try simp only [List.set_cons_succ, List.set_cons_zero] at M9); have m9xx0 := M9.out.cell 0 0 rfl rfl; have m9xx1 := M9.out.cell 0 1 rfl rfl; have m9xx2 := M9.out.cell 0 2 rfl rfl; have m9xx3 := M9.out.cell 0 3 rfl rfl; have m9xa0 := M9.out.cell 1 0 rfl rfl; have m9xa1 := M9.out.cell 1 1 rfl rfl; have m9xa2 := M9.out.cell 1 2 rfl rfl; have m9xa3 := M9.out.cell 1 3 rfl rfl; have m9xa4 := M9.out.cell 1 4 rfl rfl)))
              all_goals go_wp2
              all_goals go_meet
              all_goals exact ⟨b', s', t', z, fun j => by have := HZ.out j; omega, M10.out.drop (List.Sublist.cons _ (List.Sublist.refl _))⟩
          · as_aux_lemma =>
              have hse' : (se != 0) = true := by simpa using hse
              clear hse
              obtain ⟨r, b', s', t', HW, HF⟩ := swaps (w0 := w) (g := g) (z := z) (A := 2 * (k : Int)) vb vp true se by_ 0 st th G1.out.2 (fun e => by cases e) G1.out.1 num HN.out (by omega)
              have HW := Lib.hid HW
              have HF := Lib.hid HF
              have x0 := M8.out.cell 0 0 rfl rfl; have x1 := M8.out.cell 0 1 rfl rfl; have x2 := M8.out.cell 0 2 rfl rfl; have x3 := M8.out.cell 0 3 rfl rfl
              have xf0 := M8.out.free 0 0 rfl; have xf1 := M8.out.free 0 1 rfl; have xf2 := M8.out.free 0 2 rfl; have xf3 := M8.out.free 0 3 rfl
              obtain ⟨e3, e4⟩ := M8.out.ne' 0 1 rfl rfl (by decide)
              go_upto_region 23 with fail
              have M11 := Lib.hid ((((M8.out.set 0 0 (.bool true) rfl).set 0 1 (.int .i64 se) rfl).set 0 2 (.int .i64 by_) rfl).set 0 3 (.int .i64 0) rfl)
              simp only [List.set_cons_zero] at M11
              generalize (((((v5).setCell ⟨xb, 0, none⟩ (.bool true)).setCell ⟨xb, 1, none⟩ (.int .i64 se)).setCell ⟨xb, 2, none⟩ (.int .i64 by_)).setCell ⟨xb, 3, none⟩ (.int .i64 0)) = v6 at *
              clear M8 x0 x1 x2 x3 xf0 xf1 xf2 xf3 a0 a1 a2 a3 a4
              have M8 := M11
              have m8xx0 := M8.out.cell 0 0 rfl rfl; have m8xx1 := M8.out.cell 0 1 rfl rfl; have m8xx2 := M8.out.cell 0 2 rfl rfl; have m8xx3 := M8.out.cell 0 3 rfl rfl
              have m8xa0 := M8.out.cell 1 0 rfl rfl; have m8xa1 := M8.out.cell 1 1 rfl rfl; have m8xa2 := M8.out.cell 1 2 rfl rfl; have m8xa3 := M8.out.cell 1 3 rfl rfl; have m8xa4 := M8.out.cell 1 4 rfl rfl
              go_region_held3 (fun w' => w'.cell? ⟨xb, 0, none⟩ = some (.bool true) ∧ w'.cell? ⟨xb, 1, none⟩ = some (.int .i64 se) ∧ w'.cell? ⟨xb, 2, none⟩ = some (.int .i64 by_) ∧ w'.cell? ⟨xb, 3, none⟩ = some (.int .i64 0) ∧ w'.cell? ⟨ab, 0, none⟩ = some (.int .i64 0) ∧ w'.cell? ⟨ab, 1, none⟩ = some (.int .i64 st) ∧ w'.cell? ⟨ab, 2, none⟩ = some (.int .i64 th) ∧ w'.cell? ⟨ab, 3, none⟩ = some (.int .i64 se) ∧ w'.cell? ⟨ab, 4, none⟩ = some (.int .i64 by_)) (go_keep) (first | (go_at_call 12; first | (have X := HW.out _ _ M9.out; refine X.mono ?_; rintro e u7 ⟨rfl, M10⟩; have m10xx0 := M10.out.cell 0 0 rfl rfl; have m10xx1 := M10.out.cell 0 1 rfl rfl; have m10xx2 := M10.out.cell 0 2 rfl rfl; have m10xx3 := M10.out.cell 0 3 rfl rfl; have m10xa0 := M10.out.cell 1 0 rfl rfl; have m10xa1 := M10.out.cell 1 1 rfl rfl; have m10xa2 := M10.out.cell 1 2 rfl rfl; have m10xa3 := M10.out.cell 1 3 rfl rfl; have m10xa4 := M10.out.cell 1 4 rfl rfl) | (have X := HW.out _ _ M8.out.drew; refine X.mono ?_; rintro e u6 ⟨rfl, M9⟩; have m9xx0 := M9.out.cell 0 0 rfl rfl; have m9xx1 := M9.out.cell 0 1 rfl rfl; have m9xx2 := M9.out.cell 0 2 rfl rfl; have m9xx3 := M9.out.cell 0 3 rfl rfl; have m9xa0 := M9.out.cell 1 0 rfl rfl; have m9xa1 := M9.out.cell 1 1 rfl rfl; have m9xa2 := M9.out.cell 1 2 rfl rfl; have m9xa3 := M9.out.cell 1 3 rfl rfl; have m9xa4 := M9.out.cell 1 4 rfl rfl)) | (go_at_call 13; first | (have X := HF.out _ (M9.out.get 2 rfl); refine X.mono ?_; rintro e u7 ⟨rfl, V7, g7⟩; have M10 := Lib.hid (M9.out.change 2 rfl g7.out V7.out); clear V7 g7; (try simp only [List.set_cons_succ, List.set_cons_zero] at M10); have m10xx0 := M10.out.cell 0 0 rfl rfl; have m10xx1 := M10.out.cell 0 1 rfl rfl; have m10xx2 := M10.out.cell 0 2 rfl rfl; have m10xx3 := M10.out.cell 0 3 rfl rfl; have m10xa0 := M10.out.cell 1 0 rfl rfl; have m10xa1 := M10.out.cell 1 1 rfl rfl; have m10xa2 := M10.out.cell 1 2 rfl rfl; have m10xa3 := M10.out.cell 1 3 rfl rfl; have m10xa4 := M10.out.cell 1 4 rfl rfl) | (have X := HF.out _ (M8.out.drew.get 2 rfl); refine X.mono ?_; rintro e u6 ⟨rfl, V6, g6⟩; have M9 := Lib.hid (M8.out.drew.change 2 rfl g6.out V6.out); clear V6 g6; (try simp only [List.set_cons_succ, List.set_cons_zero] at M9); have m9xx0 := M9.out.cell 0 0 rfl rfl; have m9xx1 := M9.out.cell 0 1 rfl rfl; have m9xx2 := M9.out.cell 0 2 rfl rfl; have m9xx3 := M9.out.cell 0 3 rfl rfl; have m9xa0 := M9.out.cell 1 0 rfl rfl; have m9xa1 := M9.out.cell 1 1 rfl rfl; have m9xa2 := M9.out.cell 1 2 rfl rfl; have m9xa3 := M9.out.cell 1 3 rfl rfl; have m9xa4 := M9.out.cell 1 4 rfl rfl)))
              all_goals go_wp2
              all_goals go_meet
              all_goals exact ⟨b', s', t', z, fun j => by have := HZ.out j; omega, M10.out.drop (List.Sublist.cons _ (List.Sublist.refl _))⟩
        by_cases hK1 : K = 1
        · as_aux_lemma =>
            subst hK1
            clear hK
            obtain ⟨r, b', s', t', HW, HF⟩ := leaves (w0 := w) (g := g) (n := N) (b := b) (s := s) (t := t) (z := z) (A := 2 * (k : Int)) vb vp st th G1.out.1 (by omega)
            have HW := Lib.hid HW
            have HF := Lib.hid HF
            have M8 := M7
            clear M7
            go_upto_region 26 with fail
            have m8xa0 := M8.out.cell 0 0 rfl rfl; have m8xa1 := M8.out.cell 0 1 rfl rfl; have m8xa2 := M8.out.cell 0 2 rfl rfl; have m8xa3 := M8.out.cell 0 3 rfl rfl; have m8xa4 := M8.out.cell 0 4 rfl rfl
            go_region_held3 (fun w' => w'.cell? ⟨ab, 0, none⟩ = some (.int .i64 1) ∧ w'.cell? ⟨ab, 1, none⟩ = some (.int .i64 st) ∧ w'.cell? ⟨ab, 2, none⟩ = some (.int .i64 th) ∧ w'.cell? ⟨ab, 3, none⟩ = some (.int .i64 se) ∧ w'.cell? ⟨ab, 4, none⟩ = some (.int .i64 by_)) (go_keep) (first | (go_at_call 14; first | (have X := HW.out _ _ M9.out; refine X.mono ?_; rintro e u7 ⟨rfl, M10⟩; have m10xa0 := M10.out.cell 0 0 rfl rfl; have m10xa1 := M10.out.cell 0 1 rfl rfl; have m10xa2 := M10.out.cell 0 2 rfl rfl; have m10xa3 := M10.out.cell 0 3 rfl rfl; have m10xa4 := M10.out.cell 0 4 rfl rfl) | (have X := HW.out _ _ M8.out.drew; refine X.mono ?_; rintro e u6 ⟨rfl, M9⟩; have m9xa0 := M9.out.cell 0 0 rfl rfl; have m9xa1 := M9.out.cell 0 1 rfl rfl; have m9xa2 := M9.out.cell 0 2 rfl rfl; have m9xa3 := M9.out.cell 0 3 rfl rfl; have m9xa4 := M9.out.cell 0 4 rfl rfl)) | (go_at_call 15; first | (have X := HF.out _ (M9.out.get 1 rfl); refine X.mono ?_; rintro e u7 ⟨rfl, V7, g7⟩; have M10 := Lib.hid (M9.out.change 1 rfl g7.out V7.out); clear V7 g7; (try simp only [List.set_cons_succ, List.set_cons_zero] at M10); have m10xa0 := M10.out.cell 0 0 rfl rfl; have m10xa1 := M10.out.cell 0 1 rfl rfl; have m10xa2 := M10.out.cell 0 2 rfl rfl; have m10xa3 := M10.out.cell 0 3 rfl rfl; have m10xa4 := M10.out.cell 0 4 rfl rfl) | (have X := HF.out _ (M8.out.drew.get 1 rfl); refine X.mono ?_; rintro e u6 ⟨rfl, V6, g6⟩; have M9 := Lib.hid (M8.out.drew.change 1 rfl g6.out V6.out); clear V6 g6; (try simp only [List.set_cons_succ, List.set_cons_zero] at M9); have m9xa0 := M9.out.cell 0 0 rfl rfl; have m9xa1 := M9.out.cell 0 1 rfl rfl; have m9xa2 := M9.out.cell 0 2 rfl rfl; have m9xa3 := M9.out.cell 0 3 rfl rfl; have m9xa4 := M9.out.cell 0 4 rfl rfl)))
            all_goals go_wp2
            all_goals go_meet
            all_goals exact ⟨b', s', t', z, fun j => by have := HZ.out j; omega, M10.out⟩
        by_cases hK2 : K = 2
        · subst hK2
          clear hK hK1
          by_cases ht : th < 0 ∨ (N : Int) ≤ th
          · as_aux_lemma =>
              have hT1 : TH = false := by rw [← HTH.out]; exact decide_eq_false (by omega)
              subst hT1
              have HT := Lib.hid ht
              clear ht
              go_wp2_with fail
              refine (beat_out th HT.out _ M7.out).mono ?_
              rintro e u6 ⟨rfl, rfl⟩
              go_wp2
              go_meet
              exact ⟨b, s, t, z, fun j => by have := HZ.out j; omega, M7.out.le (by omega)⟩
          · as_aux_lemma =>
              have hT1 : TH = true := by rw [← HTH.out]; exact decide_eq_true (by omega)
              subst hT1
              obtain ⟨T, rfl⟩ := Int.eq_ofNat_of_zero_le (show 0 ≤ th by omega)
              have hTN : T < N := by omega
              have hTi : (T : Int) < (N : Int) := by omega
              clear ht
              have v3 := M7.out.cell 1 3 rfl rfl
              have ct := M7.out.cell 2 T rfl (vals_get z N T hTN)
              have cf := M7.out.free 2 T rfl
              have hzT := HZ.out T
              have hw : IntKind.i64.wrap (z T + 1) = z T + 1 := IntWalk.i64_in _ (by omega)
              go_upto_region 31 with fail
              go_region
              go_upto_region 33 with fail
              have M8 := Lib.hid (M7.out.set 2 T (.int .i64 (z T + 1)) rfl).drew
              simp only [List.set_cons_zero, List.set_cons_succ, vals_set] at M8
              generalize (wc.setCell ⟨vp, T, none⟩ _).drew = v5 at *
              clear v3 ct cf a0 a1 a2 a3 a4 M7
              have a0 := M8.out.cell 0 0 rfl rfl; have a1 := M8.out.cell 0 1 rfl rfl; have a2 := M8.out.cell 0 2 rfl rfl; have a3 := M8.out.cell 0 3 rfl rfl; have a4 := M8.out.cell 0 4 rfl rfl
              go_wp2_with fail
              refine (beat_in T hTN (by omega) (by omega) _ M8.out).mono ?_
              rintro e u6 ⟨rfl, M9⟩
              go_wp2
              go_meet
              exact ⟨b, s, t, fun j => if j = T then z T + 1 else z j, fun j => by have := HZ.out j; dsimp only; split <;> omega, M9.out.le (by omega)⟩
        have k0 : (K == 0) = false := by simpa using hK
        have k1 : (K == 1) = false := by simpa using hK1
        have k2 : (K == 2) = false := by simpa using hK2
        clear hK hK1 hK2
        go_wp2
        go_meet
        exact ⟨b, s, t, z, fun j => by have := HZ.out j; omega, M7.out.le (by omega)⟩
      case rest =>
        obtain ⟨bq, sq, tq, zq, hzq, M0⟩ := hcut
        have M8 := Lib.hid M0
        have HZ2 := Lib.hid hzq
        clear M0 M7 HZ hzq
        obtain ⟨num, hnum, _⟩ := M8.out.num
        have HN := Lib.hid hnum
        clear hnum
        go_upto_region 36 with fail
        have M9 := Lib.hid (M8.out.alloc 36 [.bool false, .int .i64 0, .int .i64 0, .int .i64 0])
        generalize wc.heap.size = wb at *
        generalize wc.alloc _ = v5 at *
        clear M8
        have v0 := M9.out.cell 2 0 rfl rfl; have v1 := M9.out.cell 2 1 rfl rfl; have v2 := M9.out.cell 2 2 rfl rfl; have v3 := M9.out.cell 2 3 rfl rfl
        go_upto_if 157 with fail
        go_cut [] from 47 to 197 (fun wx => Gt w wx g N bq sq tq zq (2 * (k : Int) + 1) [(wb, 36, [.bool bq, .int .i64 sq, .int .i64 tq, .int .i64 (pU bq tq zq)]), (ab, 33, [.int .i64 K, .int .i64 st, .int .i64 th, .int .i64 se, .int .i64 by_]), (vb, 31, [.bool bq, .int .i64 sq, .int .i64 tq, .slice (some ⟨vp, 0, none⟩) N N]), (vp, 3, vals zq N)])
        case first =>
          as_aux_lemma =>
            rcases HN.out with ⟨rfl, rfl, rfl, _⟩ | ⟨rfl, _, _, h1, h2, _⟩
            · go_wp2
              go_meet
              exact M9.out
            · obtain ⟨T, rfl⟩ := Int.eq_ofNat_of_zero_le h1
              have ct := M9.out.cell 3 T rfl (vals_get zq N T (by omega))
              obtain ⟨e1, e2⟩ := M9.out.ne' 0 2 rfl rfl (by decide)
              obtain ⟨e3, e4⟩ := M9.out.ne' 0 3 rfl rfl (by decide)
              have x0 := M9.out.cell 0 0 rfl rfl; have x1 := M9.out.cell 0 1 rfl rfl; have x2 := M9.out.cell 0 2 rfl rfl; have x3 := M9.out.cell 0 3 rfl rfl
              have xf0 := M9.out.free 0 0 rfl; have xf1 := M9.out.free 0 1 rfl; have xf2 := M9.out.free 0 2 rfl; have xf3 := M9.out.free 0 3 rfl
              go_upto_region 37 with fail
              go_region_held3 (fun w' => w'.cell? ⟨vb, 0, none⟩ = some (.bool true) ∧ w'.cell? ⟨vb, 1, none⟩ = some (.int .i64 sq) ∧ w'.cell? ⟨vb, 2, none⟩ = some (.int .i64 (T : Int)) ∧ w'.cell? ⟨vb, 3, none⟩ = some (.slice (some ⟨vp, 0, none⟩) N N) ∧ w'.cell? ⟨vp, T, none⟩ = some (.int .i64 (zq T))) (go_keep) (fail)
              go_wp2
              go_meet
              exact ((((M9.out.set 0 0 (.bool true) rfl).set 0 1 (.int .i64 sq) rfl).set 0 2 (.int .i64 (T : Int)) rfl).set 0 3 (.int .i64 (zq T)) rfl).drew
        case rest =>
          have M10 := Lib.hid hcut
          clear M9 hcut v0 v1 v2 v3
          go_upto_if 177 with fail
          go_cut [14] from 47 to 197 (fun pv wx => pv = .int .i64 (pV N zq th) ∧ Gt w wx g N bq sq tq zq (2 * (k : Int) + 1) [(wb, 36, [.bool bq, .int .i64 sq, .int .i64 tq, .int .i64 (pU bq tq zq)]), (ab, 33, [.int .i64 K, .int .i64 st, .int .i64 th, .int .i64 se, .int .i64 by_]), (vb, 31, [.bool bq, .int .i64 sq, .int .i64 tq, .slice (some ⟨vp, 0, none⟩) N N]), (vp, 3, vals zq N)])
          case first =>
            by_cases ht : th < 0 ∨ (N : Int) ≤ th
            · as_aux_lemma =>
                have hT1 : TH = false := by rw [← HTH.out]; exact decide_eq_false (by omega)
                subst hT1
                have HT := Lib.hid ht
                clear ht
                go_wp2
                go_meet
                exact ⟨by rw [pV_out N zq th HT.out], M10.out⟩
            · as_aux_lemma =>
                have hT1 : TH = true := by rw [← HTH.out]; exact decide_eq_true (by omega)
                subst hT1
                obtain ⟨T, rfl⟩ := Int.eq_ofNat_of_zero_le (show 0 ≤ th by omega)
                have hTN : T < N := by omega
                have hTi : (T : Int) < (N : Int) := by omega
                clear ht
                have v3 := M10.out.cell 2 3 rfl rfl
                have ct := M10.out.cell 3 T rfl (vals_get zq N T hTN)
                have a0 := M10.out.cell 1 0 rfl rfl; have a1 := M10.out.cell 1 1 rfl rfl; have a2 := M10.out.cell 1 2 rfl rfl; have a3 := M10.out.cell 1 3 rfl rfl; have a4 := M10.out.cell 1 4 rfl rfl
                go_wp2
                go_quiet (fail)
                go_wp2
                go_meet
                exact ⟨by rw [pV_in N zq T hTN], M10.out.drewN _⟩
          case rest =>
            as_aux_lemma =>
              obtain ⟨rfl, M0⟩ := hcut
              have M11 := Lib.hid M0
              clear M10 M0
              have HS := Lib.hid (fun (u : World) (R' : List (Nat × TypeId × List Value)) (hu : Gt w u g N bq sq tq zq (2 * (k : Int) + 1) R') => see_any u hu (by omega))
              generalize pU bq tq zq = pu at *
              have HP := Lib.hid (fun (u : World) (R' : List (Nat × TypeId × List Value)) (hu : Gt w u g N bq sq tq zq (2 * (k : Int) + 1 + 1) R') => pulse_any th u hu)
              generalize pV N zq th = pv at *
              have x0 := M11.out.cell 0 0 rfl rfl; have x1 := M11.out.cell 0 1 rfl rfl; have x2 := M11.out.cell 0 2 rfl rfl; have x3 := M11.out.cell 0 3 rfl rfl
              have a0 := M11.out.cell 1 0 rfl rfl; have a1 := M11.out.cell 1 1 rfl rfl; have a2 := M11.out.cell 1 2 rfl rfl; have a3 := M11.out.cell 1 3 rfl rfl; have a4 := M11.out.cell 1 4 rfl rfl
              go_upto_region 41 with fail
              go_region_held3 (fun w' => w'.cell? ⟨wb, 0, none⟩ = some (.bool bq) ∧ w'.cell? ⟨wb, 1, none⟩ = some (.int .i64 sq) ∧ w'.cell? ⟨wb, 2, none⟩ = some (.int .i64 tq) ∧ w'.cell? ⟨wb, 3, none⟩ = some (.int .i64 pu) ∧ w'.cell? ⟨ab, 0, none⟩ = some (.int .i64 K) ∧ w'.cell? ⟨ab, 1, none⟩ = some (.int .i64 st) ∧ w'.cell? ⟨ab, 2, none⟩ = some (.int .i64 th) ∧ w'.cell? ⟨ab, 3, none⟩ = some (.int .i64 se) ∧ w'.cell? ⟨ab, 4, none⟩ = some (.int .i64 by_)) (go_keep) (first | (go_at_call 17; (first | (have X := HS.out _ _ M11.out.drew; refine X.mono ?_) | (have X := HS.out _ _ M11.out; refine X.mono ?_)); rintro e u6 ⟨rfl, M12⟩; have y0 := M12.out.cell 0 0 rfl rfl; have y1 := M12.out.cell 0 1 rfl rfl; have y2 := M12.out.cell 0 2 rfl rfl; have y3 := M12.out.cell 0 3 rfl rfl; have d0 := M12.out.cell 1 0 rfl rfl; have d1 := M12.out.cell 1 1 rfl rfl; have d2 := M12.out.cell 1 2 rfl rfl; have d3 := M12.out.cell 1 3 rfl rfl; have d4 := M12.out.cell 1 4 rfl rfl) | (go_at_call 18; (first | (have X := HP.out _ _ M12.out; refine X.mono ?_) | (have X := HP.out _ _ M12.out.drew; refine X.mono ?_)); rintro e u7 ⟨rfl, rfl⟩))
              go_wp2
              go_roundw
              case rel => exact ⟨k + 1, bq, sq, tq, zq, by omega, by go_num, fun j => by have := HZ2.out j; omega, (M12.out.drop (List.Sublist.cons _ (List.Sublist.cons _ (List.Sublist.refl _)))).le (by omega)⟩
              case measure => simp [intOf]; omega
    · go_wp2
      go_ret
      exact ⟨rfl, M6.out.below⟩

theorem walk (a0 : Int) (a1 : Option Addr) (len1 cap1 : Nat) (z1 : Nat → Nat → Int) (w : World) (w0 : (Lit.int .i64 a0).wf = true) (w1 : IsInts 5 w a1 len1 cap1 z1) : Calls Try.prog 3 #[.int .i64 a0, .slice a1 len1 cap1] w fun e w' => e = .returned (.bool true) ∧ Below w.heap.size w w' := by
  by_cases h : 200 < (len1 : Int)
  · exact walk_out _ _ _ _ w h
  · by_cases hb : a0 < 1 ∨ 6 < a0
    · exact walk_bad _ _ _ _ w h hb
    · obtain ⟨N, rfl⟩ : ∃ N : Nat, a0 = (N : Int) := ⟨a0.toNat, by omega⟩
      exact walkIn N _ _ _ z1 w w1 h (by omega) (by omega)

theorem own : ownKnob Try.prog.godebug = none := by kernel_rfl
theorem laidOut : laidOutB Try.prog = true := by kernel_rfl

/-! ### THE ROW's STEP, as the guide has it -/
set_option maxRecDepth 100000 in
theorem lifted (os : Os) (started : os.Started) (H : Type) (enc : TypeId × Value → H) :
    ReturnsInHanded {} Try.checked os 3 .any (Rows.gateActsSpec.pre6 enc Try.prog Try.f3 Rows.gateActsRow.domain false) (Rows.gateActsSpec.post enc Try.prog Try.f3 false true false false) := by
  refine returnsInHanded_of_change (C := Try.checked) own started (by kernel_rfl) Try.func3
    (ChangeSpec.witness6 (enc := enc) (C := Try.checked) false ⟨#[], #[.int .i64 0, .slice none 0 0], []⟩ 8 (by kernel_rfl) (by kernel_rfl) (by kernel_rfl) (by kernel_rfl)) ?_
  intro W base args ds gs before hval0 hW hcnd _
  have hval : ∀ (j : Nat) t v, Try.f3.params[j]? = some t → args[j]? = some v → Value.okWide Try.prog W .any base t v := hval0
  have hW' := hW
  obtain ⟨p, q, hA0, hV, rfl, hfz, hnd⟩ := hW
  have hA : DataW.TrodAll enc Try.prog W 0 (fun _ => true) true Try.f3.params.toList args.toList ds p := hA0
  rw [Try.params3] at hA hval
  obtain ⟨v0, vs0, d0, ds0, p0, q0, hargs, rfl, rfl, h0, r0⟩ := trodAll_cons hA
  obtain ⟨v1, vs1, d1, ds1, p1, q1, rfl, rfl, rfl, h1, r1⟩ := trodAll_cons r0
  obtain ⟨rfl, rfl, rfl⟩ := trodAll_nil r1
  obtain rfl : args = #[v0, v1] := by cases args; simp_all
  obtain ⟨rfl, rfl⟩ := trodVars_none hV
  obtain ⟨a0, rfl, rfl, rfl, w0⟩ := open_int Try.underlying3 (hval 0 3 v0 rfl rfl) h0
  obtain ⟨a1, len1, cap1, rfl⟩ := okWide_slice Try.underlying22 (hval 1 22 v1 rfl rfl)
  have k1 := h1
  have lt1 : ∀ x ∈ p1, x.block < W.heap.size := by obtain ⟨m, hm⟩ := k1; exact DataW.trod_lt m _ _ _ hm
  obtain ⟨z1, w1⟩ : ∃ z, IsInts 5 W a1 len1 cap1 z := by
    obtain ⟨fuel, hf⟩ := h1
    exact isInts_of Try.underlying22 Try.underlying33 Try.underlying3 (by kernel_rfl) (by kernel_rfl) (by decide) (by decide) hf
  clear hA0 hval0
  refine (walk a0 a1 len1 cap1 z1 W w0 w1).mono fun e W' ⟨he, bel⟩ => ?_
  subst he
  exact ⟨_, rfl, _, _, _, [], _, [], hW', trodAll_mk1 (shut_bool Try.underlying4 _), (trodAll_cons_mk (shut_int Try.underlying3 w0) (trodAll_cons_mk (Below.trod laidOut (by kernel_rfl) (of_decide_eq_true (by kernel_rfl)) k1 bel lt1) trodAll_mk0)), rfl, bel.frame _, fun h => by cases h⟩

theorem over : Rows.gateActsRow.holds Try.pinned (OpenSpec.ofChange Rows.gateActsSpec) :=
  OpenClaim.holds_of_wide 3 Try.f3 rfl rfl rfl rfl rfl rfl rfl ⟨rfl, rfl, rfl, rfl, rfl⟩ rfl rfl rfl rfl rfl (by kernel_rfl) Try.func3 (by kernel_rfl)
    (of_decide_eq_true (by kernel_rfl)) (by unfold Func.isWrapper; first | (rw [if_pos (by decide +kernel)]; kernel_rfl) | (rw [if_neg (by decide +kernel)]; exact ⟨rfl, rfl⟩))
    (fun os started H enc _ => lifted os started H enc)

theorem proved : Rows.GateActsSaid := over
#print axioms proved
end Go.Proofs.Ytelapiabniabkaa.gateActs
