/-
  Layer 13's own functions, as its statements' walks take them.
-/
import Derived.Test.YtkeigicobcjleaaAC3
import Derived.Test.YtkeigicobcjleaaAC4
import Derived.Test.YtkeigicobcjleaaAtoAwake
namespace Go.Proofs.Ytkeigicobcjleaa.TB
theorem cktok : KtOk := fun W o a b nt => cturned W o a b nt
theorem cpfok : PfOk Pl := pl_allN
theorem aw13 : Aw13 := awake13 cpool sw_ok sb_ok ckmok ckmarg ckmrange ckmnil ckcok ckhok cktok
end Go.Proofs.Ytkeigicobcjleaa.TB
