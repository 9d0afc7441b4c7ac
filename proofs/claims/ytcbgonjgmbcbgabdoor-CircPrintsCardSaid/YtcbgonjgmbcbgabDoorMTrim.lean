/-
  trim: what is left of words without the noughts at their end; it lies where they lay.
-/
import Derived.Test.YtcbgonjgmbcbgabDoorMBase
import Derived.Test.YtcbgonjgmbcbgabDoorRows

namespace Go.Proofs.YtcbgonjgmbcbgabDoor
open Go.RowKit

end Go.Proofs.YtcbgonjgmbcbgabDoor
