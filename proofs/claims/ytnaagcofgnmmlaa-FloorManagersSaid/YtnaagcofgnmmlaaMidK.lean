/- Behind a decision: where it lies, and the state behind it, in front of one's own blocks. -/
import Derived.Test.YtnaagcofgnmmlaaRef05
import Derived.Test.YtnaagcofgnmmlaaOwnK
namespace Go.Proofs.Ytnaagcofgnmmlaa.ch
open Go Go.RowKit Go.Proofs.Ytnaagcofgnmmlaa.base

def Mid (w : World) (K N : Int) (st : List Value) (R : List (Nat × TypeId × List Value)) (dv xv : Value) (wr : World) : Prop :=
  ∃ (db xb : Nat), dv = .pointer (some ⟨db, 0, none⟩) ∧ xv = .pointer (some ⟨xb, 0, none⟩) ∧ Own ⟨w, fun _ => none⟩ wr ((xb, 36, st) :: (db, 34, [.int .i64 K, .int .i64 N]) :: R)

end Go.Proofs.Ytnaagcofgnmmlaa.ch
