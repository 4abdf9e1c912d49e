/-
  The contracts of Same and Print, for slices whose length is told apart.
-/
import Derived.Test.YtcojhfppipdfoaaInsAwake
import Derived.Test.YtcojhfppipdfoaaInsArgs
namespace Go.Proofs.Ytcojhfppipdfoaa.B
open Go.ChangeShapes Go.WideShapes Go.ChangeAt Go.RowKit

end Go.Proofs.Ytcojhfppipdfoaa.B
