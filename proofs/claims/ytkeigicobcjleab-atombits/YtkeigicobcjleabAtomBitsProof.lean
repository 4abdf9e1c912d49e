/-
  Of any word, any bits of it, any value of them and any record: that those bits are so is known never to be if a bit is told that isn't asked for; it is known always only where none is asked for; else it holds of a record just where those bits of that word are so.
-/
import Derived.Test.YtkeigicobcjleabRows
import Derived.WalkKit
import Derived.ProofKit
import Derived.OpenShut
import Derived.Carry
import Derived.Test.YtkeigicobcjleabAtoTop
import Derived.Test.YtkeigicobcjleabAtoLawB
import Derived.Test.YtkeigicobcjleabAtoArgB
namespace Go.Proofs.Ytkeigicobcjleab.atomBits
open Go.ChangeShapes Go.WideShapes Go.ChangeAt Go.RowKit
set_option linter.unusedVariables false

theorem own : ownKnob Try.prog.godebug = none := by kernel_rfl
theorem laidOut : laidOutB Try.prog = true := by kernel_rfl

set_option maxHeartbeats 3200000 in
set_option maxRecDepth 1000000 in
theorem walk (x0 m0 k0 : Int) (l0 : List Int) (bx0 : 0 ≤ x0 ∧ x0 < 4294967296) (bm0 : 0 ≤ m0 ∧ m0 < 4294967296) (bk0 : 0 ≤ k0 ∧ k0 < 4294967296) (ok0 : R.okR l0) (w : World) :
    Calls Try.prog 3 #[.agg (#[.int .u32 x0, .int .u32 m0, .int .u32 k0] ++ RB.enc l0)] w fun e w' => e = .returned (.bool true) ∧ Below w.heap.size w w' := by
  exact TB.bits_law TB.aw13 TB.cpool TB.ckmok TB.cpfok x0 m0 k0 l0 bx0 bm0 bk0 ok0 w

set_option maxRecDepth 100000 in
theorem lifted (os : Os) (started : os.Started) (H : Type) (enc : TypeId × Value → H) :
    ReturnsInHanded {} Try.checked os 3 .any (Rows.atomBitsSpec.pre6 enc Try.prog Try.f3 Rows.atomBitsRow.domain false) (Rows.atomBitsSpec.post enc Try.prog Try.f3 false true false false) := by
  refine returnsInHanded_of_change (C := Try.checked) own started (by kernel_rfl) Try.func3
    (ChangeSpec.witness6 (enc := enc) (C := Try.checked) false ⟨#[], #[.agg #[.int .u32 0, .int .u32 0, .int .u32 0, .int .u32 0, .int .u32 0, .int .u32 0, .int .u32 0, .int .u32 0, .int .u32 0, .int .u32 0, .int .u32 0, .int .u32 0, .int .u32 0, .int .u32 0, .int .u32 0, .int .u32 0, .int .u32 0, .int .u32 0, .int .u32 0]], []⟩ 8 (by kernel_rfl) (by kernel_rfl) (by kernel_rfl) (by kernel_rfl)) ?_
  intro W base args ds gs before hval0 hW hcnd _
  have hval : ∀ (j : Nat) t v, Try.f3.params[j]? = some t → args[j]? = some v → Value.okWide Try.prog W .any base t v := hval0
  have hW' := hW
  obtain ⟨p, q, hA0, hV, rfl, hfz, hnd⟩ := hW
  have hA : DataW.TrodAll enc Try.prog W 0 (fun _ => true) true Try.f3.params.toList args.toList ds p := hA0
  rw [Try.params3] at hA hval
  obtain ⟨v0, vs0, d0, ds0, p0, q0, hargs, rfl, rfl, h0, r0⟩ := trodAll_cons hA
  obtain ⟨rfl, rfl, rfl⟩ := trodAll_nil r0
  obtain rfl : args = #[v0] := by cases args; simp_all
  obtain ⟨rfl, rfl⟩ := trodVars_none hV
  obtain ⟨x0, m0, k0, l0, rfl, hp0, bx0, bm0, bk0, ok0⟩ := TB.arg_bits (hval 0 26 v0 rfl rfl) h0
  clear hA0 hval0
  simp only [List.append_nil] at hW'
  have hlt0 : ∀ x ∈ p0, x.block < W.heap.size := fun x hx => by simpa using hW'.lt x (by simp [hx])
  refine (walk x0 m0 k0 l0 bx0 bm0 bk0 ok0 W ).mono fun e W' ⟨he, hg⟩ => ?_
  subst he
  exact ⟨_, rfl, _, _, _, [], (p0 ++ []), [], hW', (trodAll_cons_mk (shut_bool Try.underlying4 _) trodAll_mk0), (trodAll_cons_mk (Below.trod laidOut (by kernel_rfl) (of_decide_eq_true (by kernel_rfl)) h0 hg hlt0) trodAll_mk0), rfl, hg.frame _, fun h => by cases h⟩

theorem over : Rows.atomBitsRow.holds Try.pinned (OpenSpec.ofChange Rows.atomBitsSpec) :=
  OpenClaim.holds_of_wide 3 Try.f3 rfl rfl rfl rfl rfl rfl rfl ⟨rfl, rfl, rfl, rfl, rfl⟩ rfl rfl rfl rfl rfl (by kernel_rfl) Try.func3 (by kernel_rfl)
    (of_decide_eq_true (by kernel_rfl)) (by unfold Func.isWrapper; first | (rw [if_pos (by decide +kernel)]; kernel_rfl) | (rw [if_neg (by decide +kernel)]; exact ⟨rfl, rfl⟩))
    (fun os started H enc _ => lifted os started H enc)

theorem proved : Rows.AtomBitsSaid :=
  over
#print axioms proved
end Go.Proofs.Ytkeigicobcjleab.atomBits
