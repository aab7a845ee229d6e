/- The contracts of package choice: who is met, what is seen of a pulse, how long a wait is, and whether a decision may be. A state is five numbers; a count is one more, at most a million. -/
import Derived.Test.YtocjbbfeegmkaaaProg
import Derived.Test.YtocjbbfeegmkaaaBase
import Derived.BigQuiet
import Derived.Deep.QuietTactic
import Derived.Deep.RegionHeld3
namespace Go.Proofs.Ytocjbbfeegmkaaa.ch
open Go Go.RowKit Go.Proofs.Ytocjbbfeegmkaaa.base
set_option linter.unusedVariables false

/-- A count, and one more, at most a million. -/
def cnt (n : Int) : Int := min n 999999 + 1
theorem cnt_le (n : Int) : cnt n ≤ 1000000 := by unfold cnt; omega
theorem cnt_lo (n : Int) (h : -9223372036854775808 ≤ n) : -9223372036854775808 ≤ cnt n := by unfold cnt; omega

theorem min2_run (ts : Array TypeId) (t : TypeId) (a b : Int) (w : World) : (Builtin.min_ ts t #[.int .i64 a, .int .i64 b]).run Try.prog w = .ok (.int .i64 (min a b)) w := by
  have h : ∀ x y : Int, (if y < x then y else x) = min x y := fun x y => by split <;> omega
  simp [Builtin.min_, Builtin.min2, h]

theorem max2_run (ts : Array TypeId) (t : TypeId) (a b : Int) (w : World) : (Builtin.max_ ts t #[.int .i64 a, .int .i64 b]).run Try.prog w = .ok (.int .i64 (max a b)) w := by
  have h : ∀ x y : Int, (if x < y then y else x) = max x y := fun x y => by split <;> omega
  simp [Builtin.max_, Builtin.max2, h]

/-- As many steps of a wait as there may be. -/
def steps (n w : Int) : Int := max 1 (min n w)

/-- Whether a decision may be. -/
def okB (k s n : Int) : Bool := decide (((k = 1 ∨ k = 3) ∧ s = 0) ∨ (k = 2 ∧ 1 ≤ s ∧ s ≤ n))
theorem okB_gone (k s n : Int) (h : k = 1 ∨ k = 3) : okB k s n = (s == 0) := by unfold okB; rw [Bool.eq_iff_iff]; simp; omega
theorem okB_none (k s n : Int) (h1 : k ≠ 1) (h2 : k ≠ 2) (h3 : k ≠ 3) : okB k s n = false := by unfold okB; simp; omega

end Go.Proofs.Ytocjbbfeegmkaaa.ch
