/-
  What the reference leaves behind a round, as a walk over the Go text.
-/
import Derived.Test.YtfmlefadifpocaaJR
namespace Go.Proofs.Ytfmlefadifpocaa.B
open Go.ChangeShapes Go.WideShapes Go.ChangeAt Go.RowKit
open Go.Sort hiding Below
set_option linter.unusedVariables false

theorem At.far {W W' : World} {b B : Nat} {c t f k : Int} (h : At W b c t f k) (hb : Below B W W') (hB : b < B) : At W' b c t f k := by
  unfold At at *; rw [hb.block b hB]; exact h

end Go.Proofs.Ytfmlefadifpocaa.B
namespace Go.Proofs.Ytfmlefadifpocaa.B
open Go.ChangeShapes Go.WideShapes Go.ChangeAt Go.RowKit
open Go.Sort hiding Below
set_option linter.unusedVariables false

end Go.Proofs.Ytfmlefadifpocaa.B
