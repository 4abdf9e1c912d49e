/-
  The map that the program writes out, as a walk over the Go text.
-/
import Derived.Test.YtapjjpjiggjlfaaDoorCodMap
import Derived.Deep.Cut
namespace Go.Proofs.YtapjjpjiggjlfaaDoor.B
open Go.ChangeShapes Go.WideShapes Go.ChangeAt Go.RowKit Go.Maps
set_option linter.unusedVariables false

set_option maxHeartbeats 4000000 in
set_option maxRecDepth 100000 in
theorem codes_any (w : World) : Calls Tryd.prog 39 #[] w fun e w' => e = .returned (.map (some w.heap.size)) ∧ Mp w w.heap.size w' := by
  go_enter Tryd.func39, Tryd.ntmps39
  go_upto_region 1 with fail
  refine codes_wp ?_
  intro w1 h1
  have H1 : Hid _ := h1
  clear h1
  go_wp2
  go_ret
  exact ⟨rfl, H1.out⟩
end Go.Proofs.YtapjjpjiggjlfaaDoor.B
