/- Package cells: what an object's value is. -/
import Derived.Test.YtnaagcofgnmmlaaCelC
namespace Go.Proofs.Ytnaagcofgnmmlaa.ce
open Go Go.RowKit Go.Proofs.Ytnaagcofgnmmlaa.base Go.Proofs.Ytnaagcofgnmmlaa.ar Go.Proofs.Ytnaagcofgnmmlaa.wd Go.Proofs.Ytnaagcofgnmmlaa.rf Go.Proofs.Ytnaagcofgnmmlaa.mm Go.Proofs.Ytnaagcofgnmmlaa.vl Go.Proofs.Ytnaagcofgnmmlaa.ds
set_option linter.unusedVariables false

/-- A locator's version, by its owner's status. -/
def vers (x : Rc) (s : Int) : Int := if x.owner = -1 ∨ s = 2 then x.new else x.old

/-- An object's value is y's: the chain from its cell. -/
def ValAt (rs : List Rc) (hd : List Int) (is : Int → Bool) (num : Int → Nat → Int) (j : Nat) (y : Rc) : Prop :=
  ∃ (p : Int) (x : Rc), hd[j]? = some p ∧ recAt rs p = some x ∧ x.kind = 2 ∧ (Lit.int .i64 x.owner).wf = true ∧ recAt rs (rsv x (stt is num x.owner)) = some y ∧ y.kind = 1

end Go.Proofs.Ytnaagcofgnmmlaa.ce
