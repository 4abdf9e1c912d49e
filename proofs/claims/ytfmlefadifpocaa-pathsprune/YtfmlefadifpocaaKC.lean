/-
  What the program answers, of layer 9's pruning too, in the form that layer 10's statements ask.
-/
import Derived.Test.YtfmlefadifpocaaKB
import Derived.Test.YtfmlefadifpocaaJZ
import Derived.Test.YtfmlefadifpocaaJX
namespace Go.Proofs.Ytfmlefadifpocaa.B
theorem prOk10 : PrOk10 := fun b o n cap L h1 h2 h3 h4 W h => (cprune b o n cap L h1 h2 h3 h4 W h).mono fun _ _ ⟨a, c, g1, g2, g3⟩ => ⟨⟨a, c, g1, g2⟩, g3⟩
end Go.Proofs.Ytfmlefadifpocaa.B
