/- The contracts of package desc that change a descriptor: Turn, Raise, Wait. -/
import Derived.Test.YthkpofbefabieaaRRRRDesc
import Derived.Deep.RegionHeld3
import Derived.IntWalk
namespace Go.Proofs.YthkpofbefabieaaRRRR.ds
open Go Go.RowKit Go.Proofs.YthkpofbefabieaaRRRR.base Go.Proofs.YthkpofbefabieaaRRRR.ar Go.Proofs.YthkpofbefabieaaRRRR.wd

/-- What a bool is, as a word's number. -/
def bit (b : Bool) : Int := if b then 1 else 0

end Go.Proofs.YthkpofbefabieaaRRRR.ds
