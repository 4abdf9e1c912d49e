/-
  The statement TermOnly, whole, over what the program's own functions answer.
-/
import Derived.Test.YtmjeoknndnbglaaTerLawM
namespace Go.Proofs.Ytmjeoknndnbglaa.TB
open Go.ChangeShapes Go.WideShapes Go.ChangeAt Go.RowKit
open Go.Sort hiding Below
theorem tonly_law (hAw : Aw11) (hBad : OnBad) (hOut : OnOut) (hOn : OnOk) (A : Option Addr) (cap : Nat) (l : List TM.N) (ok : ∀ x ∈ l, TM.okN x) (B : Option Addr) (cap' : Nat) (Rs : List Int) (hRb : ∀ i ∈ Rs, -9223372036854775808 ≤ i ∧ i < 9223372036854775808) (r : List Int) (hk : R.okR r) (w : World) (hl : LiesN w A l) (hR : LiesI w B Rs) :
    Calls Try.prog 6 #[.slice A l.length cap, .slice B Rs.length cap', .agg (RB.enc r)] w fun e w' => e = .returned (.bool true) ∧ Below w.heap.size w w' := by
  by_cases h : 100 < l.length ∨ 20 < Rs.length
  · exact tonly_big hAw A l.length cap B Rs.length cap' r h w
  · cases hr : TM.rowB l with
    | false => exact tonly_bad hAw hBad A l.length cap B Rs.length cap' r l Rs rfl rfl (by omega) (by omega) ok hr w hl hR
    | true =>
      by_cases hin : inB l Rs
      · exact tonly_good hAw hOn A l.length cap B Rs.length cap' r hk l Rs rfl rfl (by omega) (by omega) ok hr hin w hl hR
      · exact tonly_out hAw hOut A l.length cap B Rs.length cap' r hk l Rs rfl rfl (by omega) (by omega) ok hr hin hRb w hl hR
end Go.Proofs.Ytmjeoknndnbglaa.TB
