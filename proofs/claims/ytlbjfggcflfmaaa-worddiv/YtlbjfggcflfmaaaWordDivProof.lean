/-
  For every two words a quotient times its divisor, and a rest that is less than the divisor, is the word, and nothing is divided by 0; no condition.
-/
import Derived.Test.YtlbjfggcflfmaaaRows
import Derived.WalkKit
import Derived.ProofKit
import Derived.OpenShut
import Derived.Test.YtlbjfggcflfmaaaMath
import Derived.Test.YtlbjfggcflfmaaaBase
import Derived.WalkLawsBesides
import Derived.Laws.Shifts
import Derived.Laws.BitsAllLaws
namespace Go.Proofs.Ytlbjfggcflfmaaa.wordDiv
open Go.ChangeShapes Go.WideShapes Go.ChangeAt Go.RowKit
set_option linter.unusedVariables false

theorem own : ownKnob Try.prog.godebug = none := by kernel_rfl

theorem rest (a b : Nat) (ha : a < 4294967296) (hb : 0 < b) (hb2 : b < 4294967296) : ∃ q : Int, (a : Int) / b % 4294967296 = q ∧ ((a : Int) - q * b) % 4294967296 < b ∧ q ≤ a := by
  have h0 : a / b ≤ a := Nat.div_le_self a b
  have h2 := Nat.div_add_mod a b
  have h3 := Nat.mod_lt a hb
  refine ⟨((a / b : Nat) : Int), ?_, ?_, ?_⟩
  · rw [← Int.natCast_ediv]; generalize a / b = q at *; omega
  · rw [← Int.natCast_mul, show a / b * b = b * (a / b) from Nat.mul_comm _ _]
    generalize b * (a / b) = q at *
    omega
  · omega

set_option maxHeartbeats 1600000 in
theorem walk (a0 : Int) (a1 : Int) (w0 : (Lit.int .u32 a0).wf = true) (w1 : (Lit.int .u32 a1).wf = true) (w : World) :
    Calls Try.prog 5 #[.int .u32 a0, .int .u32 a1] w fun e w' => e = .returned (.bool true) ∧ Grown w w' := by
  obtain ⟨a, rfl, ha⟩ := M.nat32 w0
  obtain ⟨b, rfl, hb⟩ := M.nat32 w1
  clear w0 w1
  by_cases h : b = 0
  · subst h
    go_enter Try.func5, Try.ntmps5
    go_wp2_with (first | (go_at_call 11; refine (B.awake_any _).mono ?_; rintro e w' ⟨rfl, n, rfl⟩) | go_in)
    go_ret
    exact ⟨rfl, B.grown_drewN _ _ _ (Grown.refl _)⟩
  · have hz : ((b : Int) == 0) = false := by simp; omega
    have hz2 : ((b : Int) != 0) = true := by simp; omega
    obtain ⟨q, e1, e2, e3⟩ := rest a b ha (by omega) hb
    clear ha hb h
    go_enter Try.func5, Try.ntmps5
    go_wp2_with (first | (go_at_call 11; refine (B.awake_any _).mono ?_; rintro e w' ⟨rfl, n, rfl⟩) | go_in)
    go_ret
    exact ⟨rfl, B.grown_drewN _ _ _ (Grown.refl _)⟩

set_option maxRecDepth 100000 in
theorem lifted (os : Os) (started : os.Started) (H : Type) (enc : TypeId × Value → H) :
    ReturnsInHanded {} Try.checked os 5 .any (Rows.wordDivSpec.pre6 enc Try.prog Try.f5 Rows.wordDivRow.domain false) (Rows.wordDivSpec.post enc Try.prog Try.f5 false true false false) := by
  refine returnsInHanded_of_change (C := Try.checked) own started (by kernel_rfl) Try.func5
    (ChangeSpec.witness6 (enc := enc) (C := Try.checked) false ⟨#[], #[.int .u32 0, .int .u32 0], []⟩ 8 (by kernel_rfl) (by kernel_rfl) (by kernel_rfl) (by kernel_rfl)) ?_
  intro W base args ds gs before hval0 hW hcnd _
  have hval : ∀ (j : Nat) t v, Try.f5.params[j]? = some t → args[j]? = some v → Value.okWide Try.prog W .any base t v := hval0
  have hW' := hW
  obtain ⟨p, q, hA0, hV, rfl, hfz, hnd⟩ := hW
  have hA : DataW.TrodAll enc Try.prog W 0 (fun _ => true) true Try.f5.params.toList args.toList ds p := hA0
  rw [Try.params5] at hA hval
  obtain ⟨v0, vs0, d0, ds0, p0, q0, hargs, rfl, rfl, h0, r0⟩ := trodAll_cons hA
  obtain ⟨v1, vs1, d1, ds1, p1, q1, rfl, rfl, rfl, h1, r1⟩ := trodAll_cons r0
  obtain ⟨rfl, rfl, rfl⟩ := trodAll_nil r1
  obtain rfl : args = #[v0, v1] := by cases args; simp_all
  obtain ⟨rfl, rfl⟩ := trodVars_none hV
  obtain ⟨a0, rfl, rfl, rfl, w0⟩ := open_int Try.underlying22 (hval 0 22 v0 rfl rfl) h0
  obtain ⟨a1, rfl, rfl, rfl, w1⟩ := open_int Try.underlying22 (hval 1 22 v1 rfl rfl) h1
  clear hA0 hval0
  simp only [List.append_nil] at hW'
  refine (walk a0 a1 w0 w1 W).mono fun e W' ⟨he, hg⟩ => ?_
  subst he
  exact ⟨_, rfl, post_of_same (pa := []) (pv := []) hW' (fun _ _ _ => (trodAll_cons_mk (shut_bool Try.underlying4 _) trodAll_mk0)) (fun sp _ => (trodAll_cons_mk (shut_int Try.underlying22 w0) (trodAll_cons_mk (shut_int Try.underlying22 w1) trodAll_mk0))) (fun _ _ => rfl) rfl
    (hg.frame _) hg.2.1 (ok_one (by kernel_rfl) rfl (okWide_bool_mk Try.underlying4 _))⟩

theorem over : Rows.wordDivRow.holds Try.pinned (OpenSpec.ofChange Rows.wordDivSpec) :=
  OpenClaim.holds_of_wide 5 Try.f5 rfl rfl rfl rfl rfl rfl rfl ⟨rfl, rfl, rfl, rfl, rfl⟩ rfl rfl rfl rfl rfl (by kernel_rfl) Try.func5 (by kernel_rfl)
    (of_decide_eq_true (by kernel_rfl)) (by unfold Func.isWrapper; first | (rw [if_pos (by decide +kernel)]; kernel_rfl) | (rw [if_neg (by decide +kernel)]; exact ⟨rfl, rfl⟩))
    (fun os started H enc _ => lifted os started H enc)

theorem proved : Rows.WordDivSaid :=
  over
#print axioms proved
end Go.Proofs.Ytlbjfggcflfmaaa.wordDiv
