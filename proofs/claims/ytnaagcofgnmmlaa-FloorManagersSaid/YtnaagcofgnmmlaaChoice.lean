/- The contracts of package choice: who is met, what is seen of a pulse, how long a wait is, and whether a decision may be. A state is five numbers; a count is one more, at most a million. -/
import Derived.Test.YtnaagcofgnmmlaaProg
import Derived.Test.YtnaagcofgnmmlaaBase
import Derived.BigQuiet
import Derived.Deep.QuietTactic
import Derived.Deep.RegionHeld3
namespace Go.Proofs.Ytnaagcofgnmmlaa.ch
open Go Go.RowKit Go.Proofs.Ytnaagcofgnmmlaa.base
set_option linter.unusedVariables false

/-- A count, and one more, at most a million. -/
def cnt (n : Int) : Int := min n 999999 + 1
theorem cnt_le (n : Int) : cnt n ≤ 1000000 := by unfold cnt; omega
theorem cnt_lo (n : Int) (h : -9223372036854775808 ≤ n) : -9223372036854775808 ≤ cnt n := by unfold cnt; omega

theorem min2_run (ts : Array TypeId) (t : TypeId) (a b : Int) (w : World) : (Builtin.min_ ts t #[.int .i64 a, .int .i64 b]).run Try.prog w = .ok (.int .i64 (min a b)) w := by
  have h : ∀ x y : Int, (if y < x then y else x) = min x y := fun x y => by split <;> omega
  simp [Builtin.min_, Builtin.min2, h]

theorem max2_run (ts : Array TypeId) (t : TypeId) (a b : Int) (w : World) : (Builtin.max_ ts t #[.int .i64 a, .int .i64 b]).run Try.prog w = .ok (.int .i64 (max a b)) w := by
  have h : ∀ x y : Int, (if x < y then y else x) = max x y := fun x y => by split <;> omega
  simp [Builtin.max_, Builtin.max2, h]

theorem more_any (n : Int) (lo : -9223372036854775808 ≤ n) (w : World) : Calls Try.prog 56 #[.int .i64 n] w fun e w' => e = .returned (.int .i64 (cnt n)) ∧ w = w' := by
  have h1 : -9223372036854775808 ≤ min n 999999 := by omega
  have h2 : min n 999999 ≤ 999999 := by omega
  have hm := min2_run #[3, 3] 3 n 999999
  go_enter Try.func56, Try.ntmps56
  go_wp2
  go_ret
  exact ⟨rfl, rfl⟩

theorem met_same (f t y p l st pr pu : Int) (b : Bool) (lo : -9223372036854775808 ≤ t) (w : World) :
    Calls Try.prog 53 #[.agg #[.int .i64 f, .int .i64 t, .int .i64 y, .int .i64 p, .int .i64 l], .agg #[.int .i64 f, .int .i64 st, .int .i64 pr, .int .i64 pu, .bool b]] w fun e w' => e = .returned (.agg #[.int .i64 f, .int .i64 (cnt t), .int .i64 y, .int .i64 p, .int .i64 l]) ∧ Hid (w.grownBy w' none) := by
  go_enter Try.func53, Try.ntmps53
  go_wp2_with fail
  refine (more_any t lo _).mono ?_
  rintro e v1 ⟨rfl, rfl⟩
  go_wp2
  refine bodyPost_ret (v := .agg #[.int .i64 f, .int .i64 (cnt t), .int .i64 y, .int .i64 p, .int .i64 l]) (by simp [results, Try.results53, go_sem]) rfl ⟨rfl, ?_⟩
  repeat (first | exact gb_refl _ _ | refine gb_alloc ?_ _ | refine gb_drewN ?_ _ | refine gb_setNew ?_ (by simp) _)

theorem met_other (f t y p l id st pr pu : Int) (b : Bool) (h : (f == id) = false) (w : World) :
    Calls Try.prog 53 #[.agg #[.int .i64 f, .int .i64 t, .int .i64 y, .int .i64 p, .int .i64 l], .agg #[.int .i64 id, .int .i64 st, .int .i64 pr, .int .i64 pu, .bool b]] w fun e w' => e = .returned (.agg #[.int .i64 id, .int .i64 1, .int .i64 y, .int .i64 pu, .int .i64 0]) ∧ Hid (w.grownBy w' none) := by
  go_enter Try.func53, Try.ntmps53
  go_wp2
  refine bodyPost_ret (v := .agg #[.int .i64 id, .int .i64 1, .int .i64 y, .int .i64 pu, .int .i64 0]) (by simp [results, Try.results53, go_sem]) rfl ⟨rfl, ?_⟩
  repeat (first | exact gb_refl _ _ | refine gb_alloc ?_ _ | refine gb_drewN ?_ _ | refine gb_setNew ?_ (by simp) _)

theorem look_same (f t y p l n : Int) (lo : -9223372036854775808 ≤ l) (w : World) :
    Calls Try.prog 64 #[.agg #[.int .i64 f, .int .i64 t, .int .i64 y, .int .i64 p, .int .i64 l], .int .i64 p, .int .i64 n] w fun e w' => e = .returned (.tuple #[.agg #[.int .i64 f, .int .i64 t, .int .i64 y, .int .i64 p, .int .i64 (cnt l)], .bool (decide (n < cnt l))]) ∧ Hid (w.grownBy w' none) := by
  go_enter Try.func64, Try.ntmps64
  go_wp2_with fail
  refine (more_any l lo _).mono ?_
  rintro e v1 ⟨rfl, rfl⟩
  go_wp2
  go_region
  all_goals
    go_wp2
    refine bodyPost_ret (v := .tuple #[.agg #[.int .i64 f, .int .i64 t, .int .i64 y, .int .i64 p, .int .i64 (cnt l)], .bool (decide (n < cnt l))]) (by simp [results, Try.results64, go_sem]) rfl ⟨rfl, ?_⟩
    repeat (first | exact gb_refl _ _ | refine gb_alloc ?_ _ | refine gb_drewN ?_ _ | refine gb_setNew ?_ (by simp) _)

theorem look_other (f t y p l q n : Int) (h : (p == q) = false) (w : World) :
    Calls Try.prog 64 #[.agg #[.int .i64 f, .int .i64 t, .int .i64 y, .int .i64 p, .int .i64 l], .int .i64 q, .int .i64 n] w fun e w' => e = .returned (.tuple #[.agg #[.int .i64 f, .int .i64 t, .int .i64 y, .int .i64 q, .int .i64 0], .bool (decide (n < 0))]) ∧ Hid (w.grownBy w' none) := by
  go_enter Try.func64, Try.ntmps64
  go_wp2
  go_region
  all_goals
    go_wp2
    refine bodyPost_ret (v := .tuple #[.agg #[.int .i64 f, .int .i64 t, .int .i64 y, .int .i64 q, .int .i64 0], .bool (decide (n < 0))]) (by simp [results, Try.results64, go_sem]) rfl ⟨rfl, ?_⟩
    repeat (first | exact gb_refl _ _ | refine gb_alloc ?_ _ | refine gb_drewN ?_ _ | refine gb_setNew ?_ (by simp) _)

/-- As many steps of a wait as there may be. -/
def steps (n w : Int) : Int := max 1 (min n w)

theorem for_any (n m : Int) (w : World) : Calls Try.prog 54 #[.int .i64 n, .int .i64 m] w fun e w' => e = .returned (.agg #[.int .i64 2, .int .i64 (steps n m)]) ∧ Hid (w.grownBy w' none) := by
  have hm := min2_run #[3, 3] 3 n m
  have hx := max2_run #[3, 3] 3 1 (min n m)
  go_enter Try.func54, Try.ntmps54
  go_wp2
  refine bodyPost_ret (v := .agg #[.int .i64 2, .int .i64 (steps n m)]) (by simp [results, steps, Try.results54, go_sem]) rfl ⟨rfl, ?_⟩
  repeat (first | exact gb_refl _ _ | refine gb_alloc ?_ _ | refine gb_drewN ?_ _ | refine gb_setNew ?_ (by simp) _)

/-- Whether a decision may be. -/
def okB (k s n : Int) : Bool := decide (((k = 1 ∨ k = 3) ∧ s = 0) ∨ (k = 2 ∧ 1 ≤ s ∧ s ≤ n))
theorem okB_gone (k s n : Int) (h : k = 1 ∨ k = 3) : okB k s n = (s == 0) := by unfold okB; rw [Bool.eq_iff_iff]; simp; omega
theorem okB_none (k s n : Int) (h1 : k ≠ 1) (h2 : k ≠ 2) (h3 : k ≠ 3) : okB k s n = false := by unfold okB; simp; omega

end Go.Proofs.Ytnaagcofgnmmlaa.ch
