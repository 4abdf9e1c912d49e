/-
  The bytes of a program, as walks over the Go text: instr.Print and the reference's.
-/
import Derived.Test.YtcojhfppipdfoabInsSame
namespace Go.Proofs.Ytcojhfppipdfoab.B
open Go.ChangeShapes Go.WideShapes Go.ChangeAt Go.RowKit
set_option linter.unusedVariables false

theorem prt_succ {l : List M.I} {k : Nat} (h : k < l.length) : M.pr (l.take (k + 1)) = M.pr (l.take k) ++ M.by8 l[k] := by
  rw [List.take_succ_eq_append_getElem h, M.pr_snoc]
theorem u8s_append (a b : List Int) : u8s (a ++ b) = u8s a ++ u8s b := by simp [u8s]

theorem own_form {w : World} {base : Nat} {e : TypeId} {size : Nat} {v : Value} {n : Nat} {xs : List Value} (h : w.ownsRow base e size v n xs) (hn : 0 < n) : ∃ g cap, v = .slice (some ⟨g, 0, none⟩) n cap := by
  rcases h.2 with ⟨h', h0⟩ | ⟨g, cap, cur, h', _⟩
  · omega
  · exact ⟨g, cap, h'⟩

end Go.Proofs.Ytcojhfppipdfoab.B
