/- All that the laws of stage 19 stand on. -/
import Derived.Test.YtkidkhjpijjphaaRows
import Derived.Test.YtkidkhjpijjphaaPk4
namespace Go.Proofs.Ytkidkhjpijjphaa.base
end Go.Proofs.Ytkidkhjpijjphaa.base
