/-
  The walks of the statements PruneTells and PruneSame, over what the program's own functions answer.
-/
import Derived.Test.YtfmlefadifpocaaJS
import Derived.Test.YtfmlefadifpocaaJF
namespace Go.Proofs.Ytfmlefadifpocaa.B
open Go.ChangeShapes Go.WideShapes Go.ChangeAt Go.RowKit
open Go.Sort hiding Below
set_option linter.unusedVariables false

/-- what Prune answers of a filter, and of what is none -/
def PrOk : Prop := ∀ (b o n cap : Nat) (L : List M.I), L.length = n → n ≤ 4096 → (∀ i ∈ L, M.okI i) → M.right L → ∀ W, Ly W b o L → Calls Try.prog 16 #[.slice (some ⟨b, o, none⟩) n cap] W fun e w' => ∃ a c, e = .returned (.tuple #[.slice a (M.pruneL L).length c, .int .i64 0]) ∧ Lies w' a (M.pruneL L) ∧ Below W.heap.size W w'
def PrBad : Prop := ∀ (a : Option Addr) (n cap : Nat) (L : List M.I), L.length = n → n ≤ 4096 → (∀ i ∈ L, M.okI i) → M.rightB L = false → ∀ W, Lies W a L → Calls Try.prog 16 #[.slice a n cap] W fun e w' => ∃ a c, e = .returned (.tuple #[.slice a 0 c, .int .i64 1]) ∧ Below W.heap.size W w'
end Go.Proofs.Ytfmlefadifpocaa.B
namespace Go.Proofs.Ytfmlefadifpocaa.B
open Go.ChangeShapes Go.WideShapes Go.ChangeAt Go.RowKit
open Go.Sort hiding Below
set_option linter.unusedVariables false

theorem Lies.ly0 {w : World} {a : Option Addr} {l : List M.I} (h : Lies w a l) (hr : M.right l) : ∃ b o, a = some ⟨b, o, none⟩ ∧ Ly w b o l :=
  h.ly (by have := ((M.right_iff l).1 hr).1.1; omega)

end Go.Proofs.Ytfmlefadifpocaa.B
