/-
  Layer 11's awake, over the program's own functions.
-/
import Derived.Test.YtmjeoknndnbglaaTerAwake
import Derived.Test.YtmjeoknndnbglaaTerCodF
import Derived.Test.YtmjeoknndnbglaaTerCodS
namespace Go.Proofs.Ytmjeoknndnbglaa.TB
theorem aw11 : Aw11 := awake11 cck cvs cvl cus csz cal con cpool pn_ok
end Go.Proofs.Ytmjeoknndnbglaa.TB
