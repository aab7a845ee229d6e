/- When two records are equal. -/
import Derived.Test.YticlmcoegcfanaaProg
import Derived.WalkKit
import Derived.Laws.StructEq
import Derived.Laws.Tables
namespace Go.Proofs.Yticlmcoegcfanaa.ar
open Go Go.RowKit

@[go_sem] theorem eqRec (a0 a1 a2 a3 a4 a5 a6 a7 a8 b0 b1 b2 b3 b4 b5 b6 b7 b8 : Int) (w : World) : (Op.equalIn 10000 45 (.agg #[.int .i64 a0, .int .i64 a1, .int .i64 a2, .int .i64 a3, .int .i64 a4, .int .i64 a5, .int .i64 a6, .int .i64 a7, .int .i64 a8]) (.agg #[.int .i64 b0, .int .i64 b1, .int .i64 b2, .int .i64 b3, .int .i64 b4, .int .i64 b5, .int .i64 b6, .int .i64 b7, .int .i64 b8])).run Try.prog w = .ok (a0 == b0 && a1 == b1 && a2 == b2 && a3 == b3 && a4 == b4 && a5 == b5 && a6 == b6 && a7 == b7 && a8 == b8) w := by
  have u3 := Try.underlying3
  have ag3 := Try.isAgg3
  have z3 := Try.sizeOf3
  have u2 := Try.underlying2
  have ag2 := Try.isAgg2
  have z2 := Try.sizeOf2
  rw [show (10000 : Nat) = 9999 + 1 from rfl, run_equalIn_struct _ _ _ _ _ (by kernel_rfl) (by kernel_rfl)]
  simp only [Program.fieldsOf, Try.underlying45]
  go_simp
  have step : ∀ (a b : Int) (X : Result Bool) (Y : Bool), X = .ok Y w → (if a = b then X else .ok false w) = .ok (a == b && Y) w := by
    intro a b X Y h
    by_cases e : a = b
    · simp [e, h]
    · simp [e]
  have last : ∀ (a b : Int), (if a = b then (Result.ok true w : Result Bool) else .ok false w) = .ok (a == b) w := by
    intro a b
    by_cases e : a = b <;> simp [e]
  simp only [Bool.and_assoc]
  iterate 8 refine step _ _ _ _ ?_
  exact last _ _
end Go.Proofs.Yticlmcoegcfanaa.ar
