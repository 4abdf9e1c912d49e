/-
  Layer 13's own functions, as its statements' walks take them.
-/
import Derived.Test.YtkeigicobcjleabAC3
import Derived.Test.YtkeigicobcjleabAC4
import Derived.Test.YtkeigicobcjleabAtoAwake
namespace Go.Proofs.Ytkeigicobcjleab.TB
theorem cktok : KtOk := fun W o a b nt => cturned W o a b nt
theorem cpfok : PfOk Pl := pl_allN
theorem aw13 : Aw13 := awake13 cpool sw_ok sb_ok ckmok ckmarg ckmrange ckmnil ckcok ckhok cktok
end Go.Proofs.Ytkeigicobcjleab.TB
