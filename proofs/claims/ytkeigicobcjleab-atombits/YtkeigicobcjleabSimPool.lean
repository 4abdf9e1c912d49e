/-
  The law's own pool: each node of a row put into a new one, as a walk over the Go text.
-/
import Derived.Test.YtkeigicobcjleabSimLawP
namespace Go.Proofs.Ytkeigicobcjleab.TM
theorem put_take {L : List N} (hO : Once L) {k : Nat} (hk : k < L.length) : putN (L.take k) (nat0 L k) = (L.take (k + 1), k) := by
  have hlen : (L.take k).length = k := by rw [List.length_take]; omega
  have hget : ∀ i, i < k → nat0 (L.take k) i = nat0 L i := fun i hi => by
    unfold nat0
    rw [List.getD_eq_getElem?_getD, List.getD_eq_getElem?_getD, List.getElem?_take_of_lt hi]
  have hn : fnd (L.take k) (nat0 L k) = none := fnd_none.2 fun i hi e => by
    rw [hlen] at hi
    rw [hget i hi] at e
    have := hO i k (by omega) hk e
    omega
  rw [putN_new hn, hlen, List.take_succ_eq_append_getElem hk, nat0_eq hk]
end Go.Proofs.Ytkeigicobcjleab.TM
namespace Go.Proofs.Ytkeigicobcjleab.TB
open Go.ChangeShapes Go.WideShapes Go.ChangeAt Go.RowKit
open Go.Sort hiding Below
set_option linter.unusedVariables false
set_option maxRecDepth 100000

end Go.Proofs.Ytkeigicobcjleab.TB
