/-
  Of any node row of at most 60 nodes (of longer ones, and of those that may not be, the statement asks nothing more) and any atom that may be asked of it: an atom that Make tells, made of its own places again, comes back as it is; of two numbers, and of one place twice (but for bits), it is known.
-/
import Derived.Test.YtkeigicobcjleaaRows
import Derived.WalkKit
import Derived.ProofKit
import Derived.OpenShut
import Derived.Carry
import Derived.Test.YtkeigicobcjleaaAtoTop
import Derived.Test.YtkeigicobcjleaaAtoLawG
import Derived.Test.YtkeigicobcjleaaAtoArgs
namespace Go.Proofs.Ytkeigicobcjleaa.atomAgain
open Go.ChangeShapes Go.WideShapes Go.ChangeAt Go.RowKit
set_option linter.unusedVariables false

theorem own : ownKnob Try.prog.godebug = none := by kernel_rfl
theorem laidOut : laidOutB Try.prog = true := by kernel_rfl

set_option maxHeartbeats 3200000 in
set_option maxRecDepth 1000000 in
theorem walk (a0 : Option Addr) (cap0 : Nat) (l0 : List TM.N) (hn0 : l0.length ≤ cap0) (hm0 : cap0 ≤ maxLen) (ok0 : ∀ i ∈ l0, TM.okN i) (o1 x1 y1 : Int) (b1 : Bool) (wo1 : (Lit.int .i64 o1).wf = true) (wx1 : (Lit.int .i64 x1).wf = true) (wy1 : (Lit.int .i64 y1).wf = true) (w : World) (hl0 : TB.LiesN w a0 l0) :
    Calls Try.prog 7 #[.slice a0 l0.length cap0, .agg #[.int .i64 o1, .int .i64 x1, .int .i64 y1, .bool b1]] w fun e w' => e = .returned (.bool true) ∧ Below w.heap.size w w' := by
  exact TB.again_law TB.aw13 TB.cpool TB.ckmok TB.cpfok a0 cap0 o1 x1 y1 b1 l0 hn0 wo1 wx1 wy1 ok0 w hl0

set_option maxRecDepth 100000 in
theorem lifted (os : Os) (started : os.Started) (H : Type) (enc : TypeId × Value → H) :
    ReturnsInHanded {} Try.checked os 7 .any (Rows.atomAgainSpec.pre6 enc Try.prog Try.f7 Rows.atomAgainRow.domain false) (Rows.atomAgainSpec.post enc Try.prog Try.f7 false true false false) := by
  refine returnsInHanded_of_change (C := Try.checked) own started (by kernel_rfl) Try.func7
    (ChangeSpec.witness6 (enc := enc) (C := Try.checked) false ⟨#[], #[.slice none 0 0, .agg #[.int .i64 0, .int .i64 0, .int .i64 0, .bool false]], []⟩ 8 (by kernel_rfl) (by kernel_rfl) (by kernel_rfl) (by kernel_rfl)) ?_
  intro W base args ds gs before hval0 hW hcnd _
  have hval : ∀ (j : Nat) t v, Try.f7.params[j]? = some t → args[j]? = some v → Value.okWide Try.prog W .any base t v := hval0
  have hW' := hW
  obtain ⟨p, q, hA0, hV, rfl, hfz, hnd⟩ := hW
  have hA : DataW.TrodAll enc Try.prog W 0 (fun _ => true) true Try.f7.params.toList args.toList ds p := hA0
  rw [Try.params7] at hA hval
  obtain ⟨v0, vs0, d0, ds0, p0, q0, hargs, rfl, rfl, h0, r0⟩ := trodAll_cons hA
  obtain ⟨v1, vs1, d1, ds1, p1, q1, rfl, rfl, rfl, h1, r1⟩ := trodAll_cons r0
  obtain ⟨rfl, rfl, rfl⟩ := trodAll_nil r1
  obtain rfl : args = #[v0, v1] := by cases args; simp_all
  obtain ⟨rfl, rfl⟩ := trodVars_none hV
  obtain ⟨a0, cap0, l0, rfl, hn0, hm0, hl0, ok0⟩ := TB.arg_nodes (hval 0 22 v0 rfl rfl) h0
  obtain ⟨o1, x1, y1, b1, rfl, hp1, wo1, wx1, wy1⟩ := TB.arg_atom (hval 1 24 v1 rfl rfl) h1
  clear hA0 hval0
  simp only [List.append_nil] at hW'
  have hlt0 : ∀ x ∈ p0, x.block < W.heap.size := fun x hx => by simpa using hW'.lt x (by simp [hx])
  have hlt1 : ∀ x ∈ p1, x.block < W.heap.size := fun x hx => by simpa using hW'.lt x (by simp [hx])
  refine (walk a0 cap0 l0 hn0 hm0 ok0 o1 x1 y1 b1 wo1 wx1 wy1 W hl0).mono fun e W' ⟨he, hg⟩ => ?_
  subst he
  exact ⟨_, rfl, _, _, _, [], (p0 ++ (p1 ++ [])), [], hW', (trodAll_cons_mk (shut_bool Try.underlying4 _) trodAll_mk0), (trodAll_cons_mk (Below.trod laidOut (by kernel_rfl) (of_decide_eq_true (by kernel_rfl)) h0 hg hlt0) (trodAll_cons_mk (Below.trod laidOut (by kernel_rfl) (of_decide_eq_true (by kernel_rfl)) h1 hg hlt1) trodAll_mk0)), rfl, hg.frame _, fun h => by cases h⟩

theorem over : Rows.atomAgainRow.holds Try.pinned (OpenSpec.ofChange Rows.atomAgainSpec) :=
  OpenClaim.holds_of_wide 7 Try.f7 rfl rfl rfl rfl rfl rfl rfl ⟨rfl, rfl, rfl, rfl, rfl⟩ rfl rfl rfl rfl rfl (by kernel_rfl) Try.func7 (by kernel_rfl)
    (of_decide_eq_true (by kernel_rfl)) (by unfold Func.isWrapper; first | (rw [if_pos (by decide +kernel)]; kernel_rfl) | (rw [if_neg (by decide +kernel)]; exact ⟨rfl, rfl⟩))
    (fun os started H enc _ => lifted os started H enc)

theorem proved : Rows.AtomAgainSaid :=
  over
#print axioms proved
end Go.Proofs.Ytkeigicobcjleaa.atomAgain
