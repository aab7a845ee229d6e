/- All that the last two laws of stage 19 stand on. -/
import Derived.Test.YtkidkhjpijjphaaRows
import Derived.Test.YtkidkhjpijjphaaPq5
namespace Go.Proofs.Ytkidkhjpijjphaa.base
end Go.Proofs.Ytkidkhjpijjphaa.base
