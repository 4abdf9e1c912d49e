/-
  A filter that is written out, done step by step.
-/
import Derived.Test.YtejolpbdpcllkabHD
namespace Go.Proofs.Ytejolpbdpcllkab.M
theorem go_step {l : List I} {r : List Int} {n p : Nat} {s u : S} (h : s.en = false) (hp : s.pc = p) (hpl : p < l.length) (hu : stepI l[p] r s = u) : go l r (n + 1) s = ((go l r n u).1, p :: (go l r n u).2) := by
  rw [go_on l r n h hp hpl, hu]
end Go.Proofs.Ytejolpbdpcllkab.M
