/-
  The program's upward of layer 11, at three types of what is told, as walks over the Go text.
-/
import Derived.Test.YtapbeffjnpgglabTerCodA
import Derived.Test.YtapbeffjnpgglabT2
namespace Go.Proofs.Ytapbeffjnpgglab.TB
open Go.ChangeShapes Go.WideShapes Go.ChangeAt Go.RowKit
open Go.Sort hiding Below
set_option linter.unusedVariables false
set_option maxRecDepth 100000

end Go.Proofs.Ytapbeffjnpgglab.TB
