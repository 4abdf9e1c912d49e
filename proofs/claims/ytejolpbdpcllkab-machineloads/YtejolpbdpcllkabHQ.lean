/-
  The reference's Written, as a walk over the Go text.
-/
import Derived.Test.YtejolpbdpcllkabHP
namespace Go.Proofs.Ytejolpbdpcllkab.B
open Go.ChangeShapes Go.WideShapes Go.ChangeAt Go.RowKit
open Go.Sort hiding Below
set_option linter.unusedVariables false

end Go.Proofs.Ytejolpbdpcllkab.B
