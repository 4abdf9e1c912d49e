/-
  For every two pairs of words, each apart and together again is the pair, and one is greater by its higher word, then by its lower one; no condition.
-/
import Derived.Test.YtlbjfggcflfmaaaRows
import Derived.WalkKit
import Derived.ProofKit
import Derived.OpenShut
import Derived.Test.YtlbjfggcflfmaaaMath
import Derived.Test.YtlbjfggcflfmaaaBase
import Derived.WalkLawsBesides
import Derived.Laws.Shifts
import Derived.Laws.BitsAllLaws
namespace Go.Proofs.Ytlbjfggcflfmaaa.wordPairs
open Go.ChangeShapes Go.WideShapes Go.ChangeAt Go.RowKit
set_option linter.unusedVariables false

theorem own : ownKnob Try.prog.godebug = none := by kernel_rfl

theorem parts (a : Int) (h0 : 0 ≤ a) (h1 : a < 18446744073709551616) : bits .or .u64 (a / 4294967296 * 4294967296) (a % 4294967296) = a ∧ a / 4294967296 * 4294967296 + a % 4294967296 = a := by
  obtain ⟨n, rfl⟩ := Int.eq_ofNat_of_zero_le h0
  refine ⟨?_, by omega⟩
  rw [u64_or _ _ (by omega) (by omega) (by omega) (by omega)]
  have e1 : ((n : Int) / 4294967296 * 4294967296).toNat = (n / 4294967296) <<< 32 := by rw [Nat.shiftLeft_eq]; omega
  have e2 : ((n : Int) % 4294967296).toNat = n % 4294967296 := by omega
  rw [e1, e2, ← Nat.shiftLeft_add_eq_or_of_lt (by omega : n % 4294967296 < 2 ^ 32), Nat.shiftLeft_eq]
  omega

set_option maxHeartbeats 1600000 in
theorem core (a0 a1 h l h' l' : Int) (w : World)
    (r1 : a0 / 4294967296 = h) (r2 : a0 % 4294967296 = l) (r3 : a1 / 4294967296 = h') (r4 : a1 % 4294967296 = l') (r5 : h % 4294967296 = h) (r6 : h' % 4294967296 = h')
    (e1 : bits .or .u64 (h * 4294967296) l = a0) (e2 : h * 4294967296 + l = a0)
    (f : ((h == h') = false ∧ (a0 == a1) = false ∧ ((decide (a0 < a1) = true ∧ decide (h < h') = true) ∨ (decide (a0 < a1) = false ∧ decide (h < h') = false))) ∨ ((h == h') = true ∧ decide (h < h') = false ∧ (((l == l') = false ∧ (a0 == a1) = false ∧ ((decide (a0 < a1) = true ∧ decide (l < l') = true) ∨ (decide (a0 < a1) = false ∧ decide (l < l') = false))) ∨ ((l == l') = true ∧ (a0 == a1) = true ∧ decide (l < l') = false ∧ decide (a0 < a1) = false)))) :
    Calls Try.prog 7 #[.int .u64 a0, .int .u64 a1] w fun e w' => e = .returned (.bool true) ∧ Grown w w' := by
  cases hl : (l == l')
  all_goals
    rcases f with ⟨f1, f2, ⟨f3, f4⟩ | ⟨f3, f4⟩⟩ | ⟨f1, f5, ⟨f6, f2, ⟨f3, f4⟩ | ⟨f3, f4⟩⟩ | ⟨f6, f2, f3, f4⟩⟩
    all_goals first | (rw [hl] at f6; exact absurd f6 (by decide)) | skip
    all_goals
      go_enter Try.func7, Try.ntmps7
      go_wp2_with (first | (go_at_call 11; refine (B.awake_any _).mono ?_; rintro e w' ⟨rfl, n, rfl⟩) | go_in)
      go_ret
      exact ⟨rfl, B.grown_drewN _ _ _ (Grown.refl _)⟩

set_option maxHeartbeats 1600000 in
theorem walk (a0 : Int) (a1 : Int) (w0 : (Lit.int .u64 a0).wf = true) (w1 : (Lit.int .u64 a1).wf = true) (w : World) :
    Calls Try.prog 7 #[.int .u64 a0, .int .u64 a1] w fun e w' => e = .returned (.bool true) ∧ Grown w w' := by
  have b0 := bounds_u64 w0
  have b1 := bounds_u64 w1
  obtain ⟨e1, e2⟩ := parts a0 (by omega) (by omega)
  refine core a0 a1 _ _ _ _ w rfl rfl rfl rfl (by omega) (by omega) e1 e2 ?_
  simp only [beq_eq_false_iff_ne, beq_iff_eq, ne_eq, decide_eq_true_eq, decide_eq_false_iff_not]
  omega

set_option maxRecDepth 100000 in
theorem lifted (os : Os) (started : os.Started) (H : Type) (enc : TypeId × Value → H) :
    ReturnsInHanded {} Try.checked os 7 .any (Rows.wordPairsSpec.pre6 enc Try.prog Try.f7 Rows.wordPairsRow.domain false) (Rows.wordPairsSpec.post enc Try.prog Try.f7 false true false false) := by
  refine returnsInHanded_of_change (C := Try.checked) own started (by kernel_rfl) Try.func7
    (ChangeSpec.witness6 (enc := enc) (C := Try.checked) false ⟨#[], #[.int .u64 0, .int .u64 0], []⟩ 8 (by kernel_rfl) (by kernel_rfl) (by kernel_rfl) (by kernel_rfl)) ?_
  intro W base args ds gs before hval0 hW hcnd _
  have hval : ∀ (j : Nat) t v, Try.f7.params[j]? = some t → args[j]? = some v → Value.okWide Try.prog W .any base t v := hval0
  have hW' := hW
  obtain ⟨p, q, hA0, hV, rfl, hfz, hnd⟩ := hW
  have hA : DataW.TrodAll enc Try.prog W 0 (fun _ => true) true Try.f7.params.toList args.toList ds p := hA0
  rw [Try.params7] at hA hval
  obtain ⟨v0, vs0, d0, ds0, p0, q0, hargs, rfl, rfl, h0, r0⟩ := trodAll_cons hA
  obtain ⟨v1, vs1, d1, ds1, p1, q1, rfl, rfl, rfl, h1, r1⟩ := trodAll_cons r0
  obtain ⟨rfl, rfl, rfl⟩ := trodAll_nil r1
  obtain rfl : args = #[v0, v1] := by cases args; simp_all
  obtain ⟨rfl, rfl⟩ := trodVars_none hV
  obtain ⟨a0, rfl, rfl, rfl, w0⟩ := open_int Try.underlying29 (hval 0 29 v0 rfl rfl) h0
  obtain ⟨a1, rfl, rfl, rfl, w1⟩ := open_int Try.underlying29 (hval 1 29 v1 rfl rfl) h1
  clear hA0 hval0
  simp only [List.append_nil] at hW'
  refine (walk a0 a1 w0 w1 W).mono fun e W' ⟨he, hg⟩ => ?_
  subst he
  exact ⟨_, rfl, post_of_same (pa := []) (pv := []) hW' (fun _ _ _ => (trodAll_cons_mk (shut_bool Try.underlying4 _) trodAll_mk0)) (fun sp _ => (trodAll_cons_mk (shut_int Try.underlying29 w0) (trodAll_cons_mk (shut_int Try.underlying29 w1) trodAll_mk0))) (fun _ _ => rfl) rfl
    (hg.frame _) hg.2.1 (ok_one (by kernel_rfl) rfl (okWide_bool_mk Try.underlying4 _))⟩

theorem over : Rows.wordPairsRow.holds Try.pinned (OpenSpec.ofChange Rows.wordPairsSpec) :=
  OpenClaim.holds_of_wide 7 Try.f7 rfl rfl rfl rfl rfl rfl rfl ⟨rfl, rfl, rfl, rfl, rfl⟩ rfl rfl rfl rfl rfl (by kernel_rfl) Try.func7 (by kernel_rfl)
    (of_decide_eq_true (by kernel_rfl)) (by unfold Func.isWrapper; first | (rw [if_pos (by decide +kernel)]; kernel_rfl) | (rw [if_neg (by decide +kernel)]; exact ⟨rfl, rfl⟩))
    (fun os started H enc _ => lifted os started H enc)

theorem proved : Rows.WordPairsSaid :=
  over
#print axioms proved
end Go.Proofs.Ytlbjfggcflfmaaa.wordPairs
