/-
  math/bits: Add64, Sub64, Mul64 by what they answer.
-/
import Derived.Test.YtcbgonjgmbcbgabDoorMBase
import Derived.Test.YtcbgonjgmbcbgabDoorRows
import Derived.Test.YtcbgonjgmbcbgabDoorShelf

namespace Go.Proofs.YtcbgonjgmbcbgabDoor
open Go.RowKit

end Go.Proofs.YtcbgonjgmbcbgabDoor

/-
  addProduct: it adds a times a word to the words of sum, in their place, and answers what does not fit.
-/
namespace Go.Proofs.YtcbgonjgmbcbgabDoor
open Go.RowKit

end Go.Proofs.YtcbgonjgmbcbgabDoor

/-
  addInto: it adds the words b to the words of sum, in their place, and answers what does not fit.
-/
namespace Go.Proofs.YtcbgonjgmbcbgabDoor
open Go.RowKit

end Go.Proofs.YtcbgonjgmbcbgabDoor

/-
  takeProduct: it takes b times a word from the words of part, in their place, and answers what is still to be taken.
-/
namespace Go.Proofs.YtcbgonjgmbcbgabDoor
open Go.RowKit

end Go.Proofs.YtcbgonjgmbcbgabDoor
