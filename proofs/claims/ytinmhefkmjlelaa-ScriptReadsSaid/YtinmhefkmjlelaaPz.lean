/- What the statements of stage 20 that ask without the document's answer stand on. -/
import Derived.Test.YtinmhefkmjlelaaPz2
namespace Go.Proofs.Ytinmhefkmjlelaa.sc
end Go.Proofs.Ytinmhefkmjlelaa.sc
