/- The contracts of package desc that change a descriptor: Turn, Raise, Wait. -/
import Derived.Test.YtnaagcofgnmmlaaDesc
import Derived.Deep.RegionHeld3
import Derived.IntWalk
namespace Go.Proofs.Ytnaagcofgnmmlaa.ds
open Go Go.RowKit Go.Proofs.Ytnaagcofgnmmlaa.base Go.Proofs.Ytnaagcofgnmmlaa.ar Go.Proofs.Ytnaagcofgnmmlaa.wd

/-- What a bool is, as a word's number. -/
def bit (b : Bool) : Int := if b then 1 else 0

end Go.Proofs.Ytnaagcofgnmmlaa.ds
