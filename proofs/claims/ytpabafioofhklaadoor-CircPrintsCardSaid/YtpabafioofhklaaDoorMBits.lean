/-
  math/bits: Add64, Sub64, Mul64 by what they answer.
-/
import Derived.Test.YtpabafioofhklaaDoorMBase
import Derived.Test.YtpabafioofhklaaDoorRows
import Derived.Test.YtpabafioofhklaaDoorShelf

namespace Go.Proofs.YtpabafioofhklaaDoor
open Go.RowKit

end Go.Proofs.YtpabafioofhklaaDoor

/-
  addProduct: it adds a times a word to the words of sum, in their place, and answers what does not fit.
-/
namespace Go.Proofs.YtpabafioofhklaaDoor
open Go.RowKit

end Go.Proofs.YtpabafioofhklaaDoor

/-
  addInto: it adds the words b to the words of sum, in their place, and answers what does not fit.
-/
namespace Go.Proofs.YtpabafioofhklaaDoor
open Go.RowKit

end Go.Proofs.YtpabafioofhklaaDoor

/-
  takeProduct: it takes b times a word from the words of part, in their place, and answers what is still to be taken.
-/
namespace Go.Proofs.YtpabafioofhklaaDoor
open Go.RowKit

end Go.Proofs.YtpabafioofhklaaDoor
