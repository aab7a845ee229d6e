/- The contracts of the document's own states (quarrelref05), a state being a block of five numbers, and of what the statements of layer 5 call themselves; when two states are equal. -/
import Derived.Test.YtocjbbfeegmkaaaChoice
import Derived.Test.YtocjbbfeegmkaaaGrow
import Derived.Laws.StructEq
import Derived.Laws.Tables
namespace Go.Proofs.Ytocjbbfeegmkaaa.ch
open Go Go.RowKit Go.Proofs.Ytocjbbfeegmkaaa.base
set_option linter.unusedVariables false

/-- What a state is behind a foe i with a pulse q that was met: its tries, its pulse, its looks; and the looks behind a look at the pulse q. -/
def mT (f i t : Int) : Int := if f = i then cnt t else 1
def mP (f i p q : Int) : Int := if f = i then p else q
def mL (f i l : Int) : Int := if f = i then l else 0
def lL (p q l : Int) : Int := if p = q then cnt l else 0
theorem mL_lo (f i l : Int) (h : -9223372036854775808 ≤ l) : -9223372036854775808 ≤ mL f i l := by unfold mL; split <;> omega

end Go.Proofs.Ytocjbbfeegmkaaa.ch
