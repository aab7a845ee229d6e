/- Behind a decision: where it lies, and the state behind it, in front of one's own blocks. -/
import Derived.Test.YtedkojcogccgcaaRef05
import Derived.Test.YtedkojcogccgcaaOwn
namespace Go.Proofs.Ytedkojcogccgcaa.ch
open Go Go.RowKit Go.Proofs.Ytedkojcogccgcaa.base

def Mid (w : World) (K N : Int) (st : List Value) (R : List (Nat × TypeId × List Value)) (dv xv : Value) (wr : World) : Prop :=
  ∃ (db xb : Nat), dv = .pointer (some ⟨db, 0, none⟩) ∧ xv = .pointer (some ⟨xb, 0, none⟩) ∧ Own w wr ((xb, 23, st) :: (db, 28, [.int .i64 K, .int .i64 N]) :: R)

end Go.Proofs.Ytedkojcogccgcaa.ch
