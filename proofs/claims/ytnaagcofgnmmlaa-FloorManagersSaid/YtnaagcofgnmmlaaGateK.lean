/- The contracts of package gate's small functions: whether a thread is there, a stamp and a thread in one number, and what is done by what is seen; when two sights are equal; the document's own answer (quarrelref10.What), too. -/
import Derived.Test.YtnaagcofgnmmlaaRef05
import Derived.Test.YtnaagcofgnmmlaaOwnK
import Derived.Test.YtnaagcofgnmmlaaWd
import Derived.Deep.CutRange
import Derived.Deep.DeepCutAuto
import Derived.Deep.OwnRows
namespace Go.Proofs.Ytnaagcofgnmmlaa.gate
open Go Go.RowKit Go.Proofs.Ytnaagcofgnmmlaa.base Go.Proofs.Ytnaagcofgnmmlaa.ch Go.Proofs.Ytnaagcofgnmmlaa.wd
set_option linter.unusedVariables false

/-- Block g is a gate whose word is in block sw, and whose n pulses are in block pb. -/
abbrev GB (w : World) (g sw pb n : Nat) : Prop := Blk 102 w g ⟨[.pointer (some ⟨sw, 0, none⟩), .int .i64 0, .slice (some ⟨pb, 0, none⟩) n n]⟩

end Go.Proofs.Ytnaagcofgnmmlaa.gate
