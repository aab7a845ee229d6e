/- What Get answers, by what the bytes hold. -/
import Derived.Test.YtjajhkgbhckdeaaRefGet
namespace Go.Proofs.Ytjajhkgbhckdeaa.lg
open Go Go.RowKit Go.Proofs.Ytjajhkgbhckdeaa.base
set_option linter.unusedVariables false

/-- All operations, and nothing behind them. -/
def GA (bf : Nat → Int) (n : Nat) (objs : Int) (m : Nat) : Prop := n = m * 3 ∧ okN (gz bf) objs m = true
/-- The last one is short. -/
def GB (bf : Nat → Int) (n : Nat) (objs : Int) (m : Nat) : Prop := m * 3 < n ∧ n < m * 3 + 3 ∧ okN (gz bf) objs m = true
/-- One may not be. -/
def GC (bf : Nat → Int) (n : Nat) (objs : Int) (m : Nat) : Prop := m * 3 + 3 ≤ n ∧ okN (gz bf) objs m = true ∧ okB (gz bf m 0) (gz bf m 1) (gz bf m 2) objs = false

theorem get_cases (bf : Nat → Int) (n : Nat) (objs : Int) : (∃ m, GA bf n objs m) ∨ (∃ m, GB bf n objs m) ∨ ∃ m, GC bf n objs m := by
  cases h : okN (gz bf) objs (n / 3) with
  | true =>
    by_cases e : n % 3 = 0
    · exact .inl ⟨n / 3, by omega, h⟩
    · exact .inr (.inl ⟨n / 3, by omega, by omega, h⟩)
  | false =>
    obtain ⟨i, hi, h1, h2⟩ := okN_first h
    exact .inr (.inr ⟨i, by omega, h1, h2⟩)
theorem AC {bf : Nat → Int} {n : Nat} {objs : Int} {m k : Nat} (h : okN (gz bf) objs m = true) (hl : n < m * 3 + 3) (c : GC bf n objs k) : False := by
  obtain ⟨c1, c2, c3⟩ := c
  rw [okN_at h (show k < m by omega)] at c3
  cases c3
theorem CC {bf : Nat → Int} {n : Nat} {objs : Int} {m k : Nat} (c : GC bf n objs m) (d : GC bf n objs k) : m = k := by
  obtain ⟨c1, c2, c3⟩ := c
  obtain ⟨d1, d2, d3⟩ := d
  rcases Nat.lt_trichotomy m k with h | h | h
  · rw [okN_at d2 h] at c3; cases c3
  · exact h
  · rw [okN_at c2 h] at d3; cases d3

theorem getR_A {w : World} {bf : Nat → Int} {n : Nat} {objs : Int} {e : Ending} {w' : World} {m : Nat} (h : GetR w bf n objs e w') (a : GA bf n objs m) : ∃ b' c', e = .returned (.tuple #[.slice b' m c', .int .i64 (-1), .int .i64 0]) ∧ Hid (w'.ownsRow w.heap.size 24 3 (.slice b' m c') m (ops (gz bf) m)) ∧ Hid (w.grownBy w' none) := by
  obtain ⟨a1, a2⟩ := a
  obtain ⟨g, ⟨k, b', c', h1, h2, h3, h4⟩ | ⟨k, h1, h2, _⟩ | ⟨k, h1⟩⟩ := h
  · obtain rfl : m = k := by omega
    exact ⟨b', c', h3, h4, g⟩
  · omega
  · exact (AC a2 (by omega) ⟨h1.1, h1.2.1, h1.2.2.1⟩).elim
theorem getR_B {w : World} {bf : Nat → Int} {n : Nat} {objs : Int} {e : Ending} {w' : World} {m : Nat} (h : GetR w bf n objs e w') (a : GB bf n objs m) : e = .returned (.tuple #[.slice none 0 0, .int .i64 ((m * 3 : Nat) : Int), .int .i64 9]) ∧ Hid (w.grownBy w' none) := by
  obtain ⟨a1, a3, a2⟩ := a
  obtain ⟨g, ⟨k, b', c', h1, h2, h3, h4⟩ | ⟨k, h1, h2, _, h3⟩ | ⟨k, h1⟩⟩ := h
  · omega
  · obtain rfl : m = k := by omega
    exact ⟨h3, g⟩
  · exact (AC a2 (by omega) ⟨h1.1, h1.2.1, h1.2.2.1⟩).elim
theorem getR_C {w : World} {bf : Nat → Int} {n : Nat} {objs : Int} {e : Ending} {w' : World} {m : Nat} (h : GetR w bf n objs e w') (a : GC bf n objs m) : e = .returned (.tuple #[.slice none 0 0, .int .i64 ((m * 3 : Nat) : Int), .int .i64 3]) ∧ Hid (w.grownBy w' none) := by
  obtain ⟨g, ⟨k, b', c', h1, h2, h3, h4⟩ | ⟨k, h1, h2, h4, h3⟩ | ⟨k, h1, h2, h3, h4⟩⟩ := h
  · exact (AC h2 (by omega) a).elim
  · exact (AC h4 (by omega) a).elim
  · obtain rfl := CC a ⟨h1, h2, h3⟩
    exact ⟨h4, g⟩
theorem get_A (a1 : Option Addr) (n cap : Nat) (bf : Nat → Int) (objs : Int) (w : World) (m : Nat) (hz : IsNums .u8 w a1 n bf) (hb : ∀ i, i < n → 0 ≤ bf i ∧ bf i ≤ 255) (hc : n ≤ cap) (hm : cap ≤ maxLen) (hn : n ≤ 100000) (a : GA bf n objs m) :
    Calls Try.prog 20 #[.slice a1 n cap, .int .i64 objs] w fun e w' => ∃ b' c', e = .returned (.tuple #[.slice b' m c', .int .i64 (-1), .int .i64 0]) ∧ Hid (w'.ownsRow w.heap.size 24 3 (.slice b' m c') m (ops (gz bf) m)) ∧ Hid (w.grownBy w' none) := (get_any a1 n cap bf objs w hz hb hc hm hn).mono fun _ _ h => getR_A h a
theorem refget_A (a1 : Option Addr) (n cap : Nat) (bf : Nat → Int) (objs : Int) (w : World) (m : Nat) (hz : IsNums .u8 w a1 n bf) (hb : ∀ i, i < n → 0 ≤ bf i ∧ bf i ≤ 255) (hn : n ≤ 100000) (a : GA bf n objs m) :
    Calls Try.prog 21 #[.slice a1 n cap, .int .i64 objs] w fun e w' => ∃ b' c', e = .returned (.tuple #[.slice b' m c', .int .i64 (-1), .int .i64 0]) ∧ Hid (w'.ownsRow w.heap.size 24 3 (.slice b' m c') m (ops (gz bf) m)) ∧ Hid (w.grownBy w' none) := (refget_any a1 n cap bf objs w hz hb hn).mono fun _ _ h => getR_A h a
theorem get_B (a1 : Option Addr) (n cap : Nat) (bf : Nat → Int) (objs : Int) (w : World) (m : Nat) (hz : IsNums .u8 w a1 n bf) (hb : ∀ i, i < n → 0 ≤ bf i ∧ bf i ≤ 255) (hc : n ≤ cap) (hm : cap ≤ maxLen) (hn : n ≤ 100000) (a : GB bf n objs m) :
    Calls Try.prog 20 #[.slice a1 n cap, .int .i64 objs] w fun e w' => e = .returned (.tuple #[.slice none 0 0, .int .i64 ((m * 3 : Nat) : Int), .int .i64 9]) ∧ Hid (w.grownBy w' none) := (get_any a1 n cap bf objs w hz hb hc hm hn).mono fun _ _ h => getR_B h a
theorem refget_B (a1 : Option Addr) (n cap : Nat) (bf : Nat → Int) (objs : Int) (w : World) (m : Nat) (hz : IsNums .u8 w a1 n bf) (hb : ∀ i, i < n → 0 ≤ bf i ∧ bf i ≤ 255) (hn : n ≤ 100000) (a : GB bf n objs m) :
    Calls Try.prog 21 #[.slice a1 n cap, .int .i64 objs] w fun e w' => e = .returned (.tuple #[.slice none 0 0, .int .i64 ((m * 3 : Nat) : Int), .int .i64 9]) ∧ Hid (w.grownBy w' none) := (refget_any a1 n cap bf objs w hz hb hn).mono fun _ _ h => getR_B h a
theorem get_C (a1 : Option Addr) (n cap : Nat) (bf : Nat → Int) (objs : Int) (w : World) (m : Nat) (hz : IsNums .u8 w a1 n bf) (hb : ∀ i, i < n → 0 ≤ bf i ∧ bf i ≤ 255) (hc : n ≤ cap) (hm : cap ≤ maxLen) (hn : n ≤ 100000) (a : GC bf n objs m) :
    Calls Try.prog 20 #[.slice a1 n cap, .int .i64 objs] w fun e w' => e = .returned (.tuple #[.slice none 0 0, .int .i64 ((m * 3 : Nat) : Int), .int .i64 3]) ∧ Hid (w.grownBy w' none) := (get_any a1 n cap bf objs w hz hb hc hm hn).mono fun _ _ h => getR_C h a
theorem refget_C (a1 : Option Addr) (n cap : Nat) (bf : Nat → Int) (objs : Int) (w : World) (m : Nat) (hz : IsNums .u8 w a1 n bf) (hb : ∀ i, i < n → 0 ≤ bf i ∧ bf i ≤ 255) (hn : n ≤ 100000) (a : GC bf n objs m) :
    Calls Try.prog 21 #[.slice a1 n cap, .int .i64 objs] w fun e w' => e = .returned (.tuple #[.slice none 0 0, .int .i64 ((m * 3 : Nat) : Int), .int .i64 3]) ∧ Hid (w.grownBy w' none) := (refget_any a1 n cap bf objs w hz hb hn).mono fun _ _ h => getR_C h a
end Go.Proofs.Ytjajhkgbhckdeaa.lg
