/- When two states, and two decisions, are equal. -/
import Derived.Test.YtnaagcofgnmmlaaRef05
namespace Go.Proofs.Ytnaagcofgnmmlaa.ch
open Go Go.RowKit Go.Proofs.Ytnaagcofgnmmlaa.base
set_option linter.unusedVariables false

@[go_sem] theorem eqCS (a0 a1 a2 a3 a4 b0 b1 b2 b3 b4 : Int) (w : World) : (Op.equalIn 10000 36 (.agg #[.int .i64 a0, .int .i64 a1, .int .i64 a2, .int .i64 a3, .int .i64 a4]) (.agg #[.int .i64 b0, .int .i64 b1, .int .i64 b2, .int .i64 b3, .int .i64 b4])).run Try.prog w = .ok (a0 == b0 && a1 == b1 && a2 == b2 && a3 == b3 && a4 == b4) w := by
  have u3 := Try.underlying3
  have ag3 := Try.isAgg3
  have z3 := Try.sizeOf3
  rw [show (10000 : Nat) = 9999 + 1 from rfl, run_equalIn_struct _ _ _ _ _ (by kernel_rfl) (by kernel_rfl)]
  simp only [Program.fieldsOf, Try.underlying36]
  go_simp
  have step : ∀ (a b : Int) (X : Result Bool) (Y : Bool), X = .ok Y w → (if a = b then X else .ok false w) = .ok (a == b && Y) w := by
    intro a b X Y h
    by_cases e : a = b
    · simp [e, h]
    · simp [e]
  have last : ∀ (a b : Int), (if a = b then (Result.ok true w : Result Bool) else .ok false w) = .ok (a == b) w := by
    intro a b
    by_cases e : a = b <;> simp [e]
  simp only [Bool.and_assoc]
  iterate 4 refine step _ _ _ _ ?_
  exact last _ _

@[go_sem] theorem eqDec (a0 a1 b0 b1 : Int) (w : World) : (Op.equalIn 10000 34 (.agg #[.int .i64 a0, .int .i64 a1]) (.agg #[.int .i64 b0, .int .i64 b1])).run Try.prog w = .ok (a0 == b0 && a1 == b1) w := by
  have u3 := Try.underlying3
  have ag3 := Try.isAgg3
  have z3 := Try.sizeOf3
  rw [show (10000 : Nat) = 9999 + 1 from rfl, run_equalIn_struct _ _ _ _ _ (by kernel_rfl) (by kernel_rfl)]
  simp only [Program.fieldsOf, Try.underlying34]
  go_simp
  have step : ∀ (a b : Int) (X : Result Bool) (Y : Bool), X = .ok Y w → (if a = b then X else .ok false w) = .ok (a == b && Y) w := by
    intro a b X Y h
    by_cases e : a = b
    · simp [e, h]
    · simp [e]
  have last : ∀ (a b : Int), (if a = b then (Result.ok true w : Result Bool) else .ok false w) = .ok (a == b) w := by
    intro a b
    by_cases e : a = b <;> simp [e]
  refine step _ _ _ _ ?_
  exact last _ _

end Go.Proofs.Ytnaagcofgnmmlaa.ch
