/-
  The answers that layer 9's statements ask for first.
-/
import Derived.Test.YtahaooghebmhnaaPruCodH
import Derived.Test.YtahaooghebmhnaaPruAwake
namespace Go.Proofs.Ytahaooghebmhnaa.B
theorem aw9 : Aw9 := awake9 cprune cprune_bad cend_ok cneed
end Go.Proofs.Ytahaooghebmhnaa.B
