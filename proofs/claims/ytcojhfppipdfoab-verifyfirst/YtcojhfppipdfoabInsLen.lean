/-
  The contracts of Same and Print, for slices whose length is told apart.
-/
import Derived.Test.YtcojhfppipdfoabInsAwake
import Derived.Test.YtcojhfppipdfoabInsArgs
namespace Go.Proofs.Ytcojhfppipdfoab.B
open Go.ChangeShapes Go.WideShapes Go.ChangeAt Go.RowKit

end Go.Proofs.Ytcojhfppipdfoab.B
