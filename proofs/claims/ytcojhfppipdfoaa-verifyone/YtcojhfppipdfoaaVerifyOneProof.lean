/-
  For every instruction: a program of it alone is a filter just if it returns; no program of nothing is one, and nothing is told of its words; no condition.
-/
import Derived.Test.YtcojhfppipdfoaaRows
import Derived.WalkKit
import Derived.ProofKit
import Derived.OpenShut
import Derived.Carry
import Derived.Test.YtcojhfppipdfoaaVerAwake
namespace Go.Proofs.Ytcojhfppipdfoaa.verifyOne
open Go.ChangeShapes Go.WideShapes Go.ChangeAt Go.RowKit
set_option linter.unusedVariables false

theorem own : ownKnob Try.prog.godebug = none := by kernel_rfl
theorem laidOut : laidOutB Try.prog = true := by kernel_rfl
theorem one_right (x : M.I) : M.rightB [x] = M.rets x := by
  rw [Bool.eq_iff_iff, M.right_of, M.right_iff]
  have h3 : ([x] : List M.I).getD (([x] : List M.I).length - 1) (0, 0, 0, 0) = x := rfl
  rw [h3]
  constructor
  · exact fun h => h.2.2.1
  · intro h
    have hk : M.kind x.1 = 13 ∨ M.kind x.1 = 14 := by unfold M.rets at h; simpa using h
    obtain ⟨c, t, f, k⟩ := x
    simp only at hk
    refine ⟨by simp, fun i hi => ?_, h, fun i hi => ?_⟩
    · have e : i = 0 := by simp at hi; exact hi
      subst e
      show (M.loc 1 0 (c, t, f, k) != 0) = false
      rw [M.loc_else (by omega)]; rfl
    · have e : i = 0 := by simp at hi; exact hi
      subst e
      show (M.rdW (c, t, f, k) && _) = false
      have h1 : (M.kind c == 4) = false := by rw [beq_eq_false_iff_ne]; omega
      have h2 : (M.kind c == 6) = false := by rw [beq_eq_false_iff_ne]; omega
      simp [M.rdW, h1, h2]
theorem nil_right : M.rightB [] = false := by decide +kernel

set_option maxHeartbeats 3200000 in
set_option maxRecDepth 1000000 in
theorem walk (c0 t0 f0 k0 : Int) (ok0 : M.okI (c0, t0, f0, k0)) (w : World) :
    Calls Try.prog 7 #[.agg #[.int .u16 c0, .int .u8 t0, .int .u8 f0, .int .u32 k0]] w fun e w' => e = .returned (.bool true) ∧ Below w.heap.size w w' := by
  obtain ⟨r, hr⟩ : ∃ r, M.rightB [(c0, t0, f0, k0)] = r := ⟨_, rfl⟩
  have hrr : (M.kind c0 == 13 || M.kind c0 == 14) = r := by rw [← hr, one_right]; rfl
  have HR := B.hid hr
  have hb0 := B.hid ok0.1
  have HO := B.hid ok0
  have hA := B.At.new w c0 t0 f0 k0
  have HB := B.hid (B.al w (.cells #[.int .u16 c0, .int .u8 t0, .int .u8 f0, .int .u32 k0] 38))
  clear hr ok0
  go_enter Try.func7, Try.ntmps7
  go_wp2_with fail
  refine (B.rkind_any _ hb0.out.1 hb0.out.2 _).mono ?_
  rintro e w1 ⟨rfl, hb⟩
  replace hA := hA.below hb
  replace HB := B.stp HB hb
  clear hb
  go_wp2_with fail
  refine (B.awake_any _).mono ?_
  rintro e w2 ⟨rfl, hb⟩
  replace hA := hA.below hb
  replace HB := B.stp HB hb
  obtain ⟨a0, a1, a2, a3, _⟩ := hA.cells
  clear hb
  go_wp2_with fail
  refine (B.right_any (some ⟨_, 0, none⟩) 1 1 [(c0, t0, f0, k0)] rfl (by omega) (by intro i hi; simp at hi; rw [hi]; exact HO.out) _ (B.lies_lit w2 [(c0, t0, f0, k0)] 1 rfl (by unfold maxLen; omega)) r HR.out).mono ?_
  rintro e w3 ⟨rfl, hb⟩
  replace HB := B.al_stp HB hb
  clear hb hA a0 a1 a2 a3
  have cs : (M.kind c0 == 13) = true ∧ r = true ∨ (M.kind c0 == 13) = false ∧ ((M.kind c0 == 14) = true ∧ r = true ∨ (M.kind c0 == 14) = false ∧ r = false) := by
    rw [← hrr]; cases (M.kind c0 == 13) <;> cases (M.kind c0 == 14) <;> simp
  clear hrr HR
  rcases cs with ⟨d1, rfl⟩ | ⟨d1, ⟨d2, rfl⟩ | ⟨d2, rfl⟩⟩
  all_goals
    go_wp2_with (first
      | (go_at_call 12; refine (B.right_any none 0 0 [] rfl (by omega) (by simp) _ (.inl rfl) false nil_right).mono ?_; rintro e w4 ⟨rfl, hb⟩; replace HB := B.stp HB hb; clear hb)
      | (go_at_call 15; refine (B.vwritten_nil none 0 0 [] rfl (by omega) (by simp) _ (.inl rfl) (Or.inl (by decide))).mono ?_; rintro e w5 ⟨rfl, hb⟩; replace HB := B.stp HB hb; clear hb))
    go_ret
    exact ⟨rfl, HB.out⟩

set_option maxRecDepth 100000 in
theorem lifted (os : Os) (started : os.Started) (H : Type) (enc : TypeId × Value → H) :
    ReturnsInHanded {} Try.checked os 7 .any (Rows.verifyOneSpec.pre6 enc Try.prog Try.f7 Rows.verifyOneRow.domain false) (Rows.verifyOneSpec.post enc Try.prog Try.f7 false true false false) := by
  refine returnsInHanded_of_change (C := Try.checked) own started (by kernel_rfl) Try.func7
    (ChangeSpec.witness6 (enc := enc) (C := Try.checked) false ⟨#[], #[.agg #[.int .u16 0, .int .u8 0, .int .u8 0, .int .u32 0]], []⟩ 8 (by kernel_rfl) (by kernel_rfl) (by kernel_rfl) (by kernel_rfl)) ?_
  intro W base args ds gs before hval0 hW hcnd _
  have hval : ∀ (j : Nat) t v, Try.f7.params[j]? = some t → args[j]? = some v → Value.okWide Try.prog W .any base t v := hval0
  have hW' := hW
  obtain ⟨p, q, hA0, hV, rfl, hfz, hnd⟩ := hW
  have hA : DataW.TrodAll enc Try.prog W 0 (fun _ => true) true Try.f7.params.toList args.toList ds p := hA0
  rw [Try.params7] at hA hval
  obtain ⟨v0, vs0, d0, ds0, p0, q0, hargs, rfl, rfl, h0, r0⟩ := trodAll_cons hA
  obtain ⟨rfl, rfl, rfl⟩ := trodAll_nil r0
  obtain rfl : args = #[v0] := by cases args; simp_all
  obtain ⟨rfl, rfl⟩ := trodVars_none hV
  obtain ⟨c0, t0, f0, k0, rfl, hp0, ok0⟩ := B.arg_one (hval 0 38 v0 rfl rfl) h0
  clear hA0 hval0
  simp only [List.append_nil] at hW'
  have hlt0 : ∀ x ∈ p0, x.block < W.heap.size := fun x hx => by simpa using hW'.lt x (by simp [hx])
  refine (walk c0 t0 f0 k0 ok0 W ).mono fun e W' ⟨he, hg⟩ => ?_
  subst he
  exact ⟨_, rfl, _, _, _, [], (p0 ++ []), [], hW', (trodAll_cons_mk (shut_bool Try.underlying4 _) trodAll_mk0), (trodAll_cons_mk (Below.trod laidOut (by kernel_rfl) (of_decide_eq_true (by kernel_rfl)) h0 hg hlt0) trodAll_mk0), rfl, hg.frame _, fun h => by cases h⟩

theorem over : Rows.verifyOneRow.holds Try.pinned (OpenSpec.ofChange Rows.verifyOneSpec) :=
  OpenClaim.holds_of_wide 7 Try.f7 rfl rfl rfl rfl rfl rfl rfl ⟨rfl, rfl, rfl, rfl, rfl⟩ rfl rfl rfl rfl rfl (by kernel_rfl) Try.func7 (by kernel_rfl)
    (of_decide_eq_true (by kernel_rfl)) (by unfold Func.isWrapper; first | (rw [if_pos (by decide +kernel)]; kernel_rfl) | (rw [if_neg (by decide +kernel)]; exact ⟨rfl, rfl⟩))
    (fun os started H enc _ => lifted os started H enc)

theorem proved : Rows.VerifyOneSaid :=
  over
#print axioms proved
end Go.Proofs.Ytcojhfppipdfoaa.verifyOne
