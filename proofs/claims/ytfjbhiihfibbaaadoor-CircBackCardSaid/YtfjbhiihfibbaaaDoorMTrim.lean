/-
  trim: what is left of words without the noughts at their end; it lies where they lay.
-/
import Derived.Test.YtfjbhiihfibbaaaDoorMBase
import Derived.Test.YtfjbhiihfibbaaaDoorRows

namespace Go.Proofs.YtfjbhiihfibbaaaDoor
open Go.RowKit

end Go.Proofs.YtfjbhiihfibbaaaDoor
