/-
  The state behind an instruction, as walks over the Go text: a theorem a kind.
-/
import Derived.Test.YtfmlefadifpocaaJE
import Derived.Deep.RegionLaw
namespace Go.Proofs.Ytfmlefadifpocaa.B
open Go.ChangeShapes Go.WideShapes Go.ChangeAt Go.RowKit
open Go.Sort hiding Below
set_option linter.unusedVariables false

end Go.Proofs.Ytfmlefadifpocaa.B
