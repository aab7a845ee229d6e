/- When two states, and two decisions, are equal. -/
import Derived.Test.YtedkojcogccgcaaRef05
namespace Go.Proofs.Ytedkojcogccgcaa.ch
open Go Go.RowKit Go.Proofs.Ytedkojcogccgcaa.base
set_option linter.unusedVariables false

@[go_sem] theorem eqCS (a0 a1 a2 a3 a4 b0 b1 b2 b3 b4 : Int) (w : World) : (Op.equalIn 10000 23 (.agg #[.int .i64 a0, .int .i64 a1, .int .i64 a2, .int .i64 a3, .int .i64 a4]) (.agg #[.int .i64 b0, .int .i64 b1, .int .i64 b2, .int .i64 b3, .int .i64 b4])).run Try.prog w = .ok (a0 == b0 && a1 == b1 && a2 == b2 && a3 == b3 && a4 == b4) w := by
  have u3 := Try.underlying3
  have ag3 := Try.isAgg3
  have z3 := Try.sizeOf3
  rw [show (10000 : Nat) = 9999 + 1 from rfl, run_equalIn_struct _ _ _ _ _ (by kernel_rfl) (by kernel_rfl)]
  simp only [Program.fieldsOf, Try.underlying23]
  go_simp
  have step : ∀ (a b : Int) (X : Result Bool) (Y : Bool), X = .ok Y w → (if a = b then X else .ok false w) = .ok (a == b && Y) w := by
    intro a b X Y h
    by_cases e : a = b
    · simp [e, h]
    · simp [e]
  have last : ∀ (a b : Int), (if a = b then (Result.ok true w : Result Bool) else .ok false w) = .ok (a == b) w := by
    intro a b
    by_cases e : a = b <;> simp [e]
  simp only [Bool.and_assoc]
  iterate 4 refine step _ _ _ _ ?_
  exact last _ _

@[go_sem] theorem eqDec (a0 a1 b0 b1 : Int) (w : World) : (Op.equalIn 10000 28 (.agg #[.int .i64 a0, .int .i64 a1]) (.agg #[.int .i64 b0, .int .i64 b1])).run Try.prog w = .ok (a0 == b0 && a1 == b1) w := by
  have u3 := Try.underlying3
  have ag3 := Try.isAgg3
  have z3 := Try.sizeOf3
  rw [show (10000 : Nat) = 9999 + 1 from rfl, run_equalIn_struct _ _ _ _ _ (by kernel_rfl) (by kernel_rfl)]
  simp only [Program.fieldsOf, Try.underlying28]
  go_simp
  have step : ∀ (a b : Int) (X : Result Bool) (Y : Bool), X = .ok Y w → (if a = b then X else .ok false w) = .ok (a == b && Y) w := by
    intro a b X Y h
    by_cases e : a = b
    · simp [e, h]
    · simp [e]
  have last : ∀ (a b : Int), (if a = b then (Result.ok true w : Result Bool) else .ok false w) = .ok (a == b) w := by
    intro a b
    by_cases e : a = b <;> simp [e]
  refine step _ _ _ _ ?_
  exact last _ _

theorem ok_true (k s n : Int) (h : okB k s n = true) (w : World) : Calls Try.prog 13 #[.agg #[.int .i64 k, .int .i64 s], .int .i64 n] w fun e w' => e = .returned (.bool true) ∧ Hid (w.grownBy w' none) := by
  rw [← h]
  exact ok_any k s n w

theorem side_any (i st pr q : Int) (b : Bool) (w : World) : Calls Try.prog 11 #[.agg #[.int .i64 i, .int .i64 st, .int .i64 pr, .int .i64 q, .bool b]] w fun e w' => e = .returned (.agg #[.int .i64 i, .int .i64 st, .int .i64 pr, .int .i64 q, .bool b]) ∧ Hid (w.grownBy w' none) := by
  go_enter Try.func11, Try.ntmps11
  go_wp2
  refine bodyPost_ret (v := .agg #[.int .i64 i, .int .i64 st, .int .i64 pr, .int .i64 q, .bool b]) (by simp [results, Try.results11, go_sem]) rfl ⟨rfl, ?_⟩
  repeat (first | exact gb_refl _ _ | refine gb_alloc ?_ _ | refine gb_drewN ?_ _ | refine gb_setNew ?_ (by simp) _)

end Go.Proofs.Ytedkojcogccgcaa.ch
