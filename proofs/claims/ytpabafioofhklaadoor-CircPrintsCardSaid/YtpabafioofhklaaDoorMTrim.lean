/-
  trim: what is left of words without the noughts at their end; it lies where they lay.
-/
import Derived.Test.YtpabafioofhklaaDoorMBase
import Derived.Test.YtpabafioofhklaaDoorRows

namespace Go.Proofs.YtpabafioofhklaaDoor
open Go.RowKit

end Go.Proofs.YtpabafioofhklaaDoor
