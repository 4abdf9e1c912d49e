/-
  Layer 12's own functions, as its statements' walks take them.
-/
import Derived.Test.YtapbeffjnpgglabSimMk
import Derived.Test.YtapbeffjnpgglabSC4
import Derived.Test.YtapbeffjnpgglabSimAwake
namespace Go.Proofs.Ytapbeffjnpgglab.TB
theorem ckok : SkOk Pl := sk_ok
theorem ckarg : SkArg Pl := sk_arg
theorem ckrange : SkRange Pl := sk_range
theorem cbok : SbOk Pl := sb_ok
theorem caok : SaOk := ca_ok
theorem caform : SaForm := ca_form
theorem carange : SaRange := ca_range
theorem cnok : SnOk := cn_ok
theorem aw12 : Aw12 := awake12 cpool sw_ok sb_ok sk_ok sk_arg sk_range sk_nil ca_ok cn_ok
end Go.Proofs.Ytapbeffjnpgglab.TB
