/-
  For every two words a word that is moved up and down again keeps its lower bits, moved by 32 more it is the same, and moved up it is a product; no condition.
-/
import Derived.Test.YtlbjfggcflfmaaaRows
import Derived.WalkKit
import Derived.ProofKit
import Derived.OpenShut
import Derived.Test.YtlbjfggcflfmaaaMath
import Derived.Test.YtlbjfggcflfmaaaBase
import Derived.WalkLawsBesides
import Derived.Laws.Shifts
import Derived.Laws.BitsAllLaws
namespace Go.Proofs.Ytlbjfggcflfmaaa.wordMoves
open Go.ChangeShapes Go.WideShapes Go.ChangeAt Go.RowKit
set_option linter.unusedVariables false

theorem own : ownKnob Try.prog.godebug = none := by kernel_rfl

theorem pow_lt (k : Nat) (h : k ≤ 31) : 0 < 2 ^ k ∧ 2 ^ k < 4294967296 := by
  refine ⟨Nat.two_pow_pos k, ?_⟩
  have : 2 ^ k < 2 ^ 32 := Nat.pow_lt_pow_right (by omega) (by omega)
  simpa using this
theorem f1 (a b : Int) (hb : 0 ≤ b) : (M.val 96 a b == M.val 96 a ((b + 32) % 4294967296)) = true := by
  show (a * 2 ^ (b % 32).toNat % 4294967296 == a * 2 ^ ((b + 32) % 4294967296 % 32).toNat % 4294967296) = true
  rw [show (b + 32) % 4294967296 % 32 = b % 32 by omega]; simp
theorem f2 (a b : Int) (hb : 0 ≤ b) : (M.val 96 a b == M.val 32 a (2 ^ (b % 32).toNat % 4294967296)) = true := by
  show (a * 2 ^ (b % 32).toNat % 4294967296 == a * (2 ^ (b % 32).toNat % 4294967296) % 4294967296) = true
  have h := pow_lt (b % 32).toNat (by omega)
  have e : (2 : Int) ^ (b % 32).toNat = ((2 ^ (b % 32).toNat : Nat) : Int) := by simp
  rw [e, show (((2 ^ (b % 32).toNat : Nat) : Int) % 4294967296) = ((2 ^ (b % 32).toNat : Nat) : Int) by omega]; simp
theorem f4 (a b : Int) (hb : 0 ≤ b) : (M.val 48 a (2 ^ (b % 32).toNat % 4294967296) == M.val 112 a b) = true := by
  have h := pow_lt (b % 32).toNat (by omega)
  have e : (2 : Int) ^ (b % 32).toNat = ((2 ^ (b % 32).toNat : Nat) : Int) := by simp
  show ((if (2 : Int) ^ (b % 32).toNat % 4294967296 = 0 then 0 else a / (2 ^ (b % 32).toNat % 4294967296) % 4294967296) == a / 2 ^ (b % 32).toNat % 4294967296) = true
  rw [e, show (((2 ^ (b % 32).toNat : Nat) : Int) % 4294967296) = ((2 ^ (b % 32).toNat : Nat) : Int) by omega, if_neg (by omega)]; simp
theorem updown (a k : Nat) (hk : k ≤ 31) : a * 2 ^ k % 4294967296 / 2 ^ k = a % 2 ^ (32 - k) := by
  have e : 4294967296 = 2 ^ (32 - k) * 2 ^ k := by rw [← Nat.pow_add, show 32 - k + k = 32 by omega]
  rw [e, Nat.mul_mod_mul_right, Nat.mul_div_cancel _ (Nat.two_pow_pos k)]
theorem f3 (a b : Int) (ha : 0 ≤ a) (ha2 : a < 4294967296) (hb : 0 ≤ b) : (M.val 112 (M.val 96 a b) b == M.val 80 a (M.span 0 (31 - b % 32) % 4294967296)) = true := by
  obtain ⟨A, rfl⟩ := Int.eq_ofNat_of_zero_le ha
  obtain ⟨k, hk⟩ := Int.eq_ofNat_of_zero_le (show 0 ≤ b % 32 by omega)
  have hk2 : k ≤ 31 := by omega
  have e1 : M.val 112 (M.val 96 (A : Int) b) b = ((A % 2 ^ (32 - k) : Nat) : Int) := by
    show ((A : Int) * 2 ^ (b % 32).toNat % 4294967296) / 2 ^ (b % 32).toNat % 4294967296 = _
    rw [hk, Int.toNat_natCast, ← updown A k hk2]
    have q : ((A : Int) * 2 ^ k % 4294967296) / 2 ^ k = ((A * 2 ^ k % 4294967296 / 2 ^ k : Nat) : Int) := by simp
    rw [q]
    have u : A * 2 ^ k % 4294967296 / 2 ^ k ≤ A * 2 ^ k % 4294967296 := Nat.div_le_self _ _
    have v : A * 2 ^ k % 4294967296 < 4294967296 := Nat.mod_lt _ (by omega)
    generalize A * 2 ^ k % 4294967296 / 2 ^ k = z at *
    omega
  have e2 : M.span 0 (31 - b % 32) % 4294967296 = ((2 ^ (32 - k) - 1 : Nat) : Int) := by
    unfold M.span M.spanN
    rw [if_pos (by omega), hk, show (max (0 : Int) 0).toNat = 0 by omega, show (min (31 - (k : Int)) 63).toNat + 1 = 32 - k by omega, Nat.pow_zero]
    have : 2 ^ (32 - k) ≤ 2 ^ 32 := Nat.pow_le_pow_right (by omega) (by omega)
    have p := Nat.two_pow_pos (32 - k)
    omega
  rw [e1, e2]
  show (_ == bits .and .u32 (A : Int) _) = true
  have : 2 ^ (32 - k) ≤ 2 ^ 32 := Nat.pow_le_pow_right (by omega) (by omega)
  rw [M.and32 A _ (by omega) (by omega), Nat.and_two_pow_sub_one_eq_mod]
  simp

set_option maxHeartbeats 1600000 in
theorem walk (a0 : Int) (a1 : Int) (w0 : (Lit.int .u32 a0).wf = true) (w1 : (Lit.int .u32 a1).wf = true) (w : World) :
    Calls Try.prog 6 #[.int .u32 a0, .int .u32 a1] w fun e w' => e = .returned (.bool true) ∧ Grown w w' := by
  obtain ⟨ha, ha2⟩ := M.wf32 w0
  obtain ⟨hb, hb2⟩ := M.wf32 w1
  clear w0 w1
  have hs : 0 ≤ a1 % 32 := by omega
  have hs2 : a1 % 32 ≤ 31 := by omega
  have e1 := f1 a0 a1 hb
  have e2 := f2 a0 a1 hb
  have e3 := f3 a0 a1 ha ha2 hb
  have e4 := f4 a0 a1 hb
  go_enter Try.func6, Try.ntmps6
  go_wp2_with (first | (go_at_call 11; refine (B.awake_any _).mono ?_; rintro e w' ⟨rfl, n, rfl⟩) | (go_at_call 9; refine (B.alu_any _ _ _ (by first | omega | exact M.val_nonneg _ _ _) (by first | omega | exact M.val_lt _ _ _) (by first | omega | exact M.val_nonneg _ _ _) _).mono ?_; rintro e w' ⟨rfl, rfl⟩) | (go_at_call 15; refine (B.span_any _ _ _).mono ?_; rintro e w' ⟨rfl, n, rfl⟩) | go_in)
  go_ret
  exact ⟨rfl, B.grown_drewN _ _ _ (Grown.refl _)⟩

set_option maxRecDepth 100000 in
theorem lifted (os : Os) (started : os.Started) (H : Type) (enc : TypeId × Value → H) :
    ReturnsInHanded {} Try.checked os 6 .any (Rows.wordMovesSpec.pre6 enc Try.prog Try.f6 Rows.wordMovesRow.domain false) (Rows.wordMovesSpec.post enc Try.prog Try.f6 false true false false) := by
  refine returnsInHanded_of_change (C := Try.checked) own started (by kernel_rfl) Try.func6
    (ChangeSpec.witness6 (enc := enc) (C := Try.checked) false ⟨#[], #[.int .u32 0, .int .u32 0], []⟩ 8 (by kernel_rfl) (by kernel_rfl) (by kernel_rfl) (by kernel_rfl)) ?_
  intro W base args ds gs before hval0 hW hcnd _
  have hval : ∀ (j : Nat) t v, Try.f6.params[j]? = some t → args[j]? = some v → Value.okWide Try.prog W .any base t v := hval0
  have hW' := hW
  obtain ⟨p, q, hA0, hV, rfl, hfz, hnd⟩ := hW
  have hA : DataW.TrodAll enc Try.prog W 0 (fun _ => true) true Try.f6.params.toList args.toList ds p := hA0
  rw [Try.params6] at hA hval
  obtain ⟨v0, vs0, d0, ds0, p0, q0, hargs, rfl, rfl, h0, r0⟩ := trodAll_cons hA
  obtain ⟨v1, vs1, d1, ds1, p1, q1, rfl, rfl, rfl, h1, r1⟩ := trodAll_cons r0
  obtain ⟨rfl, rfl, rfl⟩ := trodAll_nil r1
  obtain rfl : args = #[v0, v1] := by cases args; simp_all
  obtain ⟨rfl, rfl⟩ := trodVars_none hV
  obtain ⟨a0, rfl, rfl, rfl, w0⟩ := open_int Try.underlying22 (hval 0 22 v0 rfl rfl) h0
  obtain ⟨a1, rfl, rfl, rfl, w1⟩ := open_int Try.underlying22 (hval 1 22 v1 rfl rfl) h1
  clear hA0 hval0
  simp only [List.append_nil] at hW'
  refine (walk a0 a1 w0 w1 W).mono fun e W' ⟨he, hg⟩ => ?_
  subst he
  exact ⟨_, rfl, post_of_same (pa := []) (pv := []) hW' (fun _ _ _ => (trodAll_cons_mk (shut_bool Try.underlying4 _) trodAll_mk0)) (fun sp _ => (trodAll_cons_mk (shut_int Try.underlying22 w0) (trodAll_cons_mk (shut_int Try.underlying22 w1) trodAll_mk0))) (fun _ _ => rfl) rfl
    (hg.frame _) hg.2.1 (ok_one (by kernel_rfl) rfl (okWide_bool_mk Try.underlying4 _))⟩

theorem over : Rows.wordMovesRow.holds Try.pinned (OpenSpec.ofChange Rows.wordMovesSpec) :=
  OpenClaim.holds_of_wide 6 Try.f6 rfl rfl rfl rfl rfl rfl rfl ⟨rfl, rfl, rfl, rfl, rfl⟩ rfl rfl rfl rfl rfl (by kernel_rfl) Try.func6 (by kernel_rfl)
    (of_decide_eq_true (by kernel_rfl)) (by unfold Func.isWrapper; first | (rw [if_pos (by decide +kernel)]; kernel_rfl) | (rw [if_neg (by decide +kernel)]; exact ⟨rfl, rfl⟩))
    (fun os started H enc _ => lifted os started H enc)

theorem proved : Rows.WordMovesSaid :=
  over
#print axioms proved
end Go.Proofs.Ytlbjfggcflfmaaa.wordMoves
