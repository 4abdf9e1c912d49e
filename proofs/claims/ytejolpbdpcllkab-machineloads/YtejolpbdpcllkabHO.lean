/-
  The reference's Local, Next and whole, as walks over the Go text.
-/
import Derived.Test.YtejolpbdpcllkabHN
namespace Go.Proofs.Ytejolpbdpcllkab.M
theorem loc10' {n i : Nat} {c t f k : Int} (h : kind c = 10) : loc n i (c, t, f, k) = if c = 52 ∧ k = 0 then 8 else if (c = 100 ∨ c = 116) ∧ 32 ≤ k then 9 else 0 := by
  unfold loc
  simp only
  rw [if_neg (by omega), if_neg (by omega), if_neg (by omega), if_pos h]
theorem loc12' {n i : Nat} {c t f k : Int} (h : kind c = 12) : loc n i (c, t, f, k) = if (n : Int) ≤ i + 1 + t ∨ (n : Int) ≤ i + 1 + f then 7 else 0 := by
  unfold loc
  simp only
  rw [if_neg (by omega), if_neg (by omega), if_neg (by omega), if_neg (by omega), if_neg (by omega), if_pos h]
end Go.Proofs.Ytejolpbdpcllkab.M
namespace Go.Proofs.Ytejolpbdpcllkab.B
open Go.ChangeShapes Go.WideShapes Go.ChangeAt Go.RowKit
open Go.Sort hiding Below
set_option linter.unusedVariables false

end Go.Proofs.Ytejolpbdpcllkab.B
