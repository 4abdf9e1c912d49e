/-
  The program's blocks, as a walk over the Go text.
-/
import Derived.Test.YtahaooghebmhnaaGA
namespace Go.Proofs.Ytahaooghebmhnaa.B
open Go.ChangeShapes Go.WideShapes Go.ChangeAt Go.RowKit Go.Maps
open Go.Sort hiding Below
set_option linter.unusedVariables false

end Go.Proofs.Ytahaooghebmhnaa.B
