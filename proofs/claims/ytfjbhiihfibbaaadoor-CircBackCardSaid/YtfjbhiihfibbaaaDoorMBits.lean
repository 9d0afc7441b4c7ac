/-
  math/bits: Add64, Sub64, Mul64 by what they answer.
-/
import Derived.Test.YtfjbhiihfibbaaaDoorMBase
import Derived.Test.YtfjbhiihfibbaaaDoorRows
import Derived.Test.YtfjbhiihfibbaaaDoorShelf

namespace Go.Proofs.YtfjbhiihfibbaaaDoor
open Go.RowKit

end Go.Proofs.YtfjbhiihfibbaaaDoor

/-
  addProduct: it adds a times a word to the words of sum, in their place, and answers what does not fit.
-/
namespace Go.Proofs.YtfjbhiihfibbaaaDoor
open Go.RowKit

end Go.Proofs.YtfjbhiihfibbaaaDoor

/-
  addInto: it adds the words b to the words of sum, in their place, and answers what does not fit.
-/
namespace Go.Proofs.YtfjbhiihfibbaaaDoor
open Go.RowKit

end Go.Proofs.YtfjbhiihfibbaaaDoor

/-
  takeProduct: it takes b times a word from the words of part, in their place, and answers what is still to be taken.
-/
namespace Go.Proofs.YtfjbhiihfibbaaaDoor
open Go.RowKit

end Go.Proofs.YtfjbhiihfibbaaaDoor
