/- The contracts of the document's own: quarrelref11.Alone, quarrelref01.Vals. -/
import Derived.Test.YtjajhkgbhckdeaaLangB
import Derived.Test.YtjajhkgbhckdeaaApp
import Derived.Test.YtjajhkgbhckdeaaCrs
namespace Go.Proofs.Ytjajhkgbhckdeaa.lg
open Go Go.RowKit Go.Proofs.Ytjajhkgbhckdeaa.base
set_option linter.unusedVariables false

theorem vals_true (a b : Option Addr) (n ca cb : Nat) (f : Nat → Int) (w : World) (ha : IsNums .i64 w a n f) (hb : IsNums .i64 w b n f) (hm : n ≤ 100000) :
    Calls Try.prog 18 #[.slice a n ca, .slice b n cb] w fun e w' => e = .returned (.bool true) ∧ Hid (w.grownBy w' none) := by
  have HA := Lib.hid ha
  have HB := Lib.hid hb
  clear ha hb
  go_enter Try.func18, Try.ntmps18
  go_wp2_with fail
  go_loopw [5] (fun i wr => ∃ k : Nat, k ≤ n ∧ i = .int .i64 k ∧ Hid (w.grownBy wr none)) (fun i _ => (n - intOf i).toNat)
  case atStart => exact ⟨0, by omega, rfl, gb_refl _ _⟩
  case round =>
    obtain ⟨k, hk, rfl, G⟩ := hrel
    by_cases hlt : k < n
    · obtain ⟨b1, o1, rfl, hb1, d1⟩ := (HA.out.grown G.out).at1 hlt
      obtain ⟨b2, o2, rfl, hb2, d2⟩ := (HB.out.grown G.out).at1 hlt
      have hlt' : (k : Int) < (n : Int) := by omega
      generalize f k = x at *
      go_wp2_with fail
      go_quiet (fail)
      go_wp2
      go_roundw
      case rel => exact ⟨k + 1, by omega, by go_num, by first | exact gb_drewN G.out _ | exact gb_drew (gb_drewN G.out _)⟩
      case measure => simp [intOf]; omega
    · obtain rfl : k = n := by omega
      go_wp2
      go_ret
      exact ⟨rfl, G⟩

/-- What is known at the head of a round. -/
structure BR (w : World) (z : Nat → Nat → Int) (v : Nat → Int) (n k : Nat) (b' : Option Addr) (c' : Nat) (wr : World) : Prop where
  row : wr.ownsRow w.heap.size 2 1 (.slice b' n c') n (vals (run z v k).2 n)
  grow : w.grownBy wr none

section
variable {w wr w' : World} {n k c' : Nat} {b' : Option Addr} {z : Nat → Nat → Int} {v : Nat → Int}
theorem BR.grown (h : BR w z v n k b' c' wr) (g : wr.grownBy w' none) : BR w z v n k b' c' w' :=
  ⟨ownsRow_keep h.row fun b e => g.block b (h.row.lt b e).2 (by simp), gb_trans h.grow g⟩
theorem BR.same (h : BR w z v n k b' c' wr) (e : (run z v (k + 1)).2 = (run z v k).2) : BR w z v n (k + 1) b' c' wr := ⟨by rw [e]; exact h.row, h.grow⟩
theorem BR.at (h : BR w z v n k b' c' wr) {i : Nat} (hi : i < n) : ∃ g, b' = some ⟨g, 0, none⟩ ∧ w.heap.size ≤ g ∧ g < wr.heap.size ∧ wr.cell? ⟨g, i, none⟩ = some (.int .i64 ((run z v k).2 i)) ∧ wr.frozen? ⟨g, i, none⟩ = false := by
  rcases h.row.2 with ⟨_, h0⟩ | ⟨g, cap, cur, e, hb, hg, _⟩
  · omega
  · injection e with e1 e2 e3
    subst e1
    refine ⟨g, rfl, hb, lt_of_block hg, (h.row.cellAt i (by omega)).trans (vals_get _ n i hi), by simp [World.frozen?, hg]⟩
theorem BR.set (h : BR w z v n k b' c' wr) {i g : Nat} {u : Int} (hi : i < n) (hg : b' = some ⟨g, 0, none⟩) (hb : w.heap.size ≤ g) (e : (run z v (k + 1)).2 = fun j => if j = i then u else (run z v k).2 j) : BR w z v n (k + 1) b' c' (wr.setCell ⟨g, i, none⟩ (.int .i64 u)) := by
  refine ⟨?_, gb_setNew h.grow hb _⟩
  rw [e, ← vals_set]
  exact ownsRow_set h.row (by rw [hg]; rfl) hi _
end

theorem refalone_any (a1 : Option Addr) (len cap : Nat) (z : Nat → Nat → Int) (a2 : Option Addr) (n cap2 : Nat) (v : Nat → Int) (w : World) (hz : IsOps w a1 len z) (hv : IsNums .i64 w a2 n v) (hok : okN z n len = true) (hn : n ≤ 100000) (hl : len ≤ 1000) :
    Calls Try.prog 19 #[.slice a1 len cap, .slice a2 n cap2] w fun e w' => ∃ b' c', e = .returned (.slice b' n c') ∧ Hid (w'.ownsRow w.heap.size 2 1 (.slice b' n c') n (vals (run z v len).2 n)) ∧ Hid (w.grownBy w' none) := by
  have HK := Lib.hid hok
  have Z := Lib.hid hz
  have V := Lib.hid (hv.grown (World.grownBy_alloc w (.cells #[] 2) none)).src
  clear hz hok hv
  go_enter Try.func19, Try.ntmps19
  go_wp2_with (at_builtin; go_loud (refine append64 _ rfl (.tmp 9) (.tmp 10) rfl w.heap.size _ 0 [] rfl (ownsRow_empty w _ 1) a2 n cap2 (vals v n) rfl (by simp [vals]) V.out (one_nums _ _ _) (by omega) (by simp) ?_); intro b' c' u2 ho hg hv; clear hv)
  simp only [Nat.zero_add, List.nil_append] at ho
  have A0 : Hid (BR w z v n 0 b' c' u2) := ⟨ho, gb_overO (World.grownBy_alloc w _ none) hg (by intro i e; cases e; exact Nat.le_refl _)⟩
  clear ho hg V
  go_loopw [6, 7] (fun sv iv wr => ∃ k : Nat, k ≤ len ∧ iv = .int .i64 k ∧ sv = .int .i64 (run z v k).1 ∧ Hid (BR w z v n k b' c' wr)) (fun _ iv _ => (len - intOf iv).toNat)
  case atStart => exact ⟨0, by omega, rfl, rfl, A0⟩
  case round =>
    obtain ⟨k, hk, rfl, rfl, A⟩ := hrel
    clear A0
    by_cases hlt : k < len
    · obtain ⟨b1, off1, rfl, hb1, c0, c1, c2⟩ := (Z.out.grown A.out.grow).at3 hlt
      have hlt' : (k : Int) < (len : Int) := by omega
      have hB := okN_at HK.out hlt
      have A2 := Lib.hid (A.out.grown (World.grownBy_alloc wr (.cells #[.int .i64 (z k 0), .int .i64 (z k 1), .int .i64 (z k 2)] 24) none))
      have hS : Hid (run z v (k + 1) = if z k 0 = 1 then ((run z v k).2 (z k 1).toNat, (run z v k).2) else if z k 0 = 2 then ((run z v k).1, fun i => if i = (z k 1).toNat then (run z v k).1 else (run z v k).2 i) else (sumI (z k 0) (z k 2) (run z v k).1, (run z v k).2)) := rfl
      clear A
      generalize z k 0 = z0 at *
      generalize z k 1 = z1 at *
      generalize z k 2 = z2 at *
      rcases okB_kind hB with rfl | rfl | rfl | rfl | rfl
      · obtain ⟨i, rfl, hin⟩ := okB_obj hB (.inl rfl)
        obtain ⟨g, hg, hb, hgl, cv, fv⟩ := A2.out.at hin
        subst hg
        have S1 := Lib.hid (show (run z v (k + 1)).1 = (run z v k).2 i by rw [hS.out]; simp)
        have A3 := Lib.hid (A2.out.same (by rw [hS.out]; simp))
        have hin' : (i : Int) < (n : Int) := by omega
        clear hB hS A2
        generalize hs : (run z v k).1 = s at *
        generalize hf : (run z v k).2 i = fi at *
        have HS := Lib.hid hs
        have HF := Lib.hid hf
        clear hs hf
        go_wp2
        go_roundw
        case rel => exact ⟨k + 1, by omega, by go_num, by rw [S1.out], A3⟩
        case measure => simp [intOf]; omega
      · obtain ⟨i, rfl, hin⟩ := okB_obj hB (.inr rfl)
        obtain ⟨g, hg, hb, hgl, cv, fv⟩ := A2.out.at hin
        subst hg
        have S1 := Lib.hid (show (run z v (k + 1)).1 = (run z v k).1 by rw [hS.out]; simp)
        have A3 := Lib.hid (A2.out.set (u := (run z v k).1) hin rfl hb (by rw [hS.out]; simp))
        have hin' : (i : Int) < (n : Int) := by omega
        clear hB hS A2
        generalize hs : (run z v k).1 = s at *
        generalize hf : (run z v k).2 i = fi at *
        have HS := Lib.hid hs
        have HF := Lib.hid hf
        clear hs hf
        go_wp2
        go_roundw
        case rel => exact ⟨k + 1, by omega, by go_num, by rw [S1.out], A3⟩
        case measure => simp [intOf]; omega
      · have S1 := Lib.hid (show (run z v (k + 1)).1 = z2 by rw [hS.out]; simp [sumI])
        have A3 := Lib.hid (A2.out.same (by rw [hS.out]; simp))
        clear hB hS A2
        generalize hs : (run z v k).1 = s at *
        have HS := Lib.hid hs
        clear hs
        go_wp2
        go_roundw
        case rel => exact ⟨k + 1, by omega, by go_num, by rw [S1.out], A3⟩
        case measure => simp [intOf]; omega
      · have S1 := Lib.hid (show (run z v (k + 1)).1 = wrap64 ((run z v k).1 + z2) by rw [hS.out]; simp [sumI])
        have A3 := Lib.hid (A2.out.same (by rw [hS.out]; simp))
        clear hB hS A2
        generalize hs : (run z v k).1 = s at *
        have HS := Lib.hid hs
        clear hs
        go_wp2
        go_roundw
        case rel => exact ⟨k + 1, by omega, by go_num, by rw [S1.out], A3⟩
        case measure => simp [intOf]; omega
      · have S1 := Lib.hid (show (run z v (k + 1)).1 = (run z v k).1 by rw [hS.out]; simp [sumI])
        have A3 := Lib.hid (A2.out.same (by rw [hS.out]; simp))
        clear hB hS A2
        generalize hs : (run z v k).1 = s at *
        have HS := Lib.hid hs
        clear hs
        go_wp2
        go_roundw
        case rel => exact ⟨k + 1, by omega, by go_num, by rw [S1.out], A3⟩
        case measure => simp [intOf]; omega
    · obtain rfl : k = len := by omega
      go_wp2
      go_ret
      exact ⟨b', c', rfl, A.out.row, A.out.grow⟩
end Go.Proofs.Ytjajhkgbhckdeaa.lg
