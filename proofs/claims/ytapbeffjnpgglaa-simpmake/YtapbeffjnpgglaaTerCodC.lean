/-
  The program's upward of layer 11, at three types of what is told, as walks over the Go text.
-/
import Derived.Test.YtapbeffjnpgglaaTerCodA
import Derived.Test.YtapbeffjnpgglaaT2
namespace Go.Proofs.Ytapbeffjnpgglaa.TB
open Go.ChangeShapes Go.WideShapes Go.ChangeAt Go.RowKit
open Go.Sort hiding Below
set_option linter.unusedVariables false
set_option maxRecDepth 100000

theorem infoH : (Try.prog.info? 55).map (fun i => (i.zero, i.size, i.bytes)) = some (some (.int .u16 0), 1, 2) := by kernel_rfl

end Go.Proofs.Ytapbeffjnpgglaa.TB
