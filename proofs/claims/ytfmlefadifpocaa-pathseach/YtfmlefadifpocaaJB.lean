/-
  The reference's Longest, as a walk over the Go text.
-/
import Derived.Test.YtfmlefadifpocaaJA
namespace Go.Proofs.Ytfmlefadifpocaa.M
theorem farF_le (l : List I) : ∀ n i, farF l n i ≤ n := by
  intro n
  induction n with
  | zero => intro i; exact Nat.le_refl _
  | succ n ih =>
    intro i
    rw [farF]
    exact fold_le _ _ (by omega) fun j _ => by have := ih j; omega
theorem far_len (l : List I) (i : Nat) : far l i ≤ l.length := by
  have := farF_le l (l.length - i) i
  unfold far; omega
def foldT (l : List I) (js : List Nat) (q : Nat) : Nat := (js.take q).foldl (fun m j => max m (1 + far l j)) 1
theorem foldT_zero (l : List I) (js : List Nat) : foldT l js 0 = 1 := by simp [foldT]
theorem foldT_succ (l : List I) {js : List Nat} {q : Nat} (h : q < js.length) : foldT l js (q + 1) = max (foldT l js q) (1 + far l js[q]) := by
  unfold foldT
  rw [List.take_succ_eq_append_getElem h, List.foldl_append]
  rfl
theorem foldT_le (l : List I) (js : List Nat) (q : Nat) : foldT l js q ≤ l.length + 1 := by
  unfold foldT
  exact fold_le _ _ (by omega) fun j _ => by have := far_len l j; omega
end Go.Proofs.Ytfmlefadifpocaa.M
namespace Go.Proofs.Ytfmlefadifpocaa.B
open Go.ChangeShapes Go.WideShapes Go.ChangeAt Go.RowKit
open Go.Sort hiding Below
set_option linter.unusedVariables false

end Go.Proofs.Ytfmlefadifpocaa.B
namespace Go.Proofs.Ytfmlefadifpocaa.B
open Go.ChangeShapes Go.WideShapes Go.ChangeAt Go.RowKit
open Go.Sort hiding Below
set_option linter.unusedVariables false

end Go.Proofs.Ytfmlefadifpocaa.B
