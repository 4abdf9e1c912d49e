/-
  For every pair of words and every two numbers of bits, each bit, how many bits are 1, and the span of bits are the document's; no condition.
-/
import Derived.Test.YtlbjfggcflfmaaaRows
import Derived.WalkKit
import Derived.ProofKit
import Derived.OpenShut
import Derived.Test.YtlbjfggcflfmaaaMath
import Derived.Test.YtlbjfggcflfmaaaBase
import Derived.Test.YtlbjfggcflfmaaaRefBoth
import Derived.Test.YtlbjfggcflfmaaaRefCount
import Derived.WalkLawsBesides
import Derived.Laws.Shifts
import Derived.Laws.BitsAllLaws
namespace Go.Proofs.Ytlbjfggcflfmaaa.wordBits
open Go.ChangeShapes Go.WideShapes Go.ChangeAt Go.RowKit
set_option linter.unusedVariables false

theorem own : ownKnob Try.prog.godebug = none := by kernel_rfl

theorem ones_ps (n : Nat) (hn : n < 18446744073709551616) (w : World) :
    Calls Try.prog 18 #[.int .u64 (n : Int)] w fun e w' => e = .returned (.int .i64 ((M.psum n 64 : Nat) : Int)) ∧ w' = w := by
  have h := B.ones_any (n : Int) (by omega) (by omega) w
  rw [Int.toNat_natCast, M.pop_psum] at h
  exact h
theorem bit_gen (x i : Int) (h : 0 ≤ x ∧ x < 18446744073709551616) (w : World) :
    Calls Try.prog 21 #[.int .u64 x, .int .i64 i] w fun e w' => e = .returned (.bool (M.bit x i)) ∧ w' = w := by
  obtain ⟨n, rfl⟩ := Int.eq_ofNat_of_zero_le h.1
  exact B.bit_any n (by omega) i w

set_option maxHeartbeats 1600000 in
set_option maxRecDepth 100000 in
theorem walk (a0 : Int) (a1 : Int) (a2 : Int) (w0 : (Lit.int .u64 a0).wf = true) (w1 : (Lit.int .i64 a1).wf = true) (w2 : (Lit.int .i64 a2).wf = true) (w : World) :
    Calls Try.prog 8 #[.int .u64 a0, .int .i64 a1, .int .i64 a2] w fun e w' => e = .returned (.bool true) ∧ Below w.heap.size w w' := by
  have b0 := bounds_u64 w0
  obtain ⟨n, rfl⟩ := Int.eq_ofNat_of_zero_le b0.1
  obtain ⟨s, e1, e2, e3⟩ := M.span_nat a1 a2
  have hn : n < 18446744073709551616 := by omega
  have HN : Hid ((0 : Int) ≤ (n : Int) ∧ (n : Int) < 18446744073709551616) := (show (0 : Int) ≤ (n : Int) ∧ (n : Int) < 18446744073709551616 by omega)
  have HT : Hid ((0 : Int) ≤ (s : Int) ∧ (s : Int) < 18446744073709551616) := (show (0 : Int) ≤ (s : Int) ∧ (s : Int) < 18446744073709551616 by omega)
  have HM : Hid (n < 18446744073709551616) := hn
  have HS : Hid (∀ t : Nat, t ≤ 63 → M.bt s t = if a1 ≤ (t : Int) ∧ (t : Int) ≤ a2 then 1 else 0) := e3
  clear w0 w1 w2 b0 e3 e2 hn
  go_enter Try.func8, Try.ntmps8
  go_wp2_with fail
  refine (B.span_any _ _ _).mono ?_
  rw [e1]
  rintro e wa ⟨rfl, m, rfl⟩
  go_wp2_with fail
  refine (B.awake_any _).mono ?_
  rintro e wa ⟨rfl, m2, rfl⟩
  go_wp2_with fail
  refine (ones_ps n HM.out _).mono ?_
  rintro e wa ⟨rfl, rfl⟩
  go_wp2_with fail
  refine (B.rones_any n _).mono ?_
  rintro e wo ⟨rfl, ho⟩
  go_wp2_with fail
  refine (B.rspan_any _ _ _).mono ?_
  rw [e1]
  rintro e wp ⟨rfl, rfl⟩
  go_wp2_with fail
  refine (B.bit_any n HM.out _ _).mono ?_
  rintro e wp2 ⟨rfl, rfl⟩
  go_wp2_with fail
  refine (B.rbit_any n _ _).mono ?_
  rintro e wb ⟨rfl, hb⟩
  go_wp2
  go_loop [8, 38] (fun c i => ∃ k : Nat, k ≤ 64 ∧ i = .int .i64 k ∧ c = .int .i64 ((M.psum n k : Nat) : Int)) (fun _ i => 64 - (intOf i).toNat)
  case atStart => exact ⟨0, Nat.zero_le _, rfl, rfl⟩
  case round =>
    obtain ⟨k, hk, rfl, rfl⟩ := hrel
    have pl := M.psum_le n k
    by_cases h : k < 64
    · have x1 := M.bit_in n k (by omega)
      have x2 := M.bit_in s k (by omega)
      have x3 := HS.out k (by omega)
      have b1 := M.bt_le n k
      have E : Hid (M.psum n (k + 1) = M.psum n k + M.bt n k) := rfl
      clear e1
      rw [x3] at x2
      clear x3
      obtain ⟨d, hd⟩ : ∃ d, M.bt n k = d := ⟨_, rfl⟩
      rw [hd] at x1 b1 E
      clear hd HS hk
      obtain rfl | rfl : d = 0 ∨ d = 1 := by omega
      all_goals
        obtain c | c | c : (k : Int) < a1 ∨ (a1 ≤ (k : Int) ∧ (k : Int) ≤ a2) ∨ (a1 ≤ (k : Int) ∧ a2 < (k : Int)) := by omega
        · rw [if_neg (by omega)] at x2
          simp at x1 x2
          go_wp2_with (go_at_call 21; refine (bit_gen _ _ (by first | exact HN.out | exact HT.out) _).mono ?_; rintro e w' ⟨rfl, rfl⟩)
          go_round
          case rel => exact ⟨k + 1, by omega, by go_num, by rw [E.out]; go_num⟩
          case measure => simp [intOf]; omega
        · rw [if_pos (by omega)] at x2
          obtain ⟨c1, c2⟩ := c
          simp at x1 x2
          go_wp2_with (go_at_call 21; refine (bit_gen _ _ (by first | exact HN.out | exact HT.out) _).mono ?_; rintro e w' ⟨rfl, rfl⟩)
          go_round
          case rel => exact ⟨k + 1, by omega, by go_num, by rw [E.out]; go_num⟩
          case measure => simp [intOf]; omega
        · rw [if_neg (by omega)] at x2
          obtain ⟨c1, c2⟩ := c
          simp at x1 x2
          go_wp2_with (go_at_call 21; refine (bit_gen _ _ (by first | exact HN.out | exact HT.out) _).mono ?_; rintro e w' ⟨rfl, rfl⟩)
          go_round
          case rel => exact ⟨k + 1, by omega, by go_num, by rw [E.out]; go_num⟩
          case measure => simp [intOf]; omega
    · obtain rfl : k = 64 := by omega
      go_wp2_with (go_at_call 18; refine (ones_ps n HM.out _).mono ?_; rintro e w' ⟨rfl, rfl⟩)
      go_ret
      exact ⟨rfl, (B.below_drawn (Below.refl _ _) _).trans (ho.trans (hb.mono ho.size))⟩

set_option maxRecDepth 100000 in
theorem lifted (os : Os) (started : os.Started) (H : Type) (enc : TypeId × Value → H) :
    ReturnsInHanded {} Try.checked os 8 .any (Rows.wordBitsSpec.pre6 enc Try.prog Try.f8 Rows.wordBitsRow.domain false) (Rows.wordBitsSpec.post enc Try.prog Try.f8 false true false false) := by
  refine returnsInHanded_of_change (C := Try.checked) own started (by kernel_rfl) Try.func8
    (ChangeSpec.witness6 (enc := enc) (C := Try.checked) false ⟨#[], #[.int .u64 0, .int .i64 0, .int .i64 0], []⟩ 8 (by kernel_rfl) (by kernel_rfl) (by kernel_rfl) (by kernel_rfl)) ?_
  intro W base args ds gs before hval0 hW hcnd _
  have hval : ∀ (j : Nat) t v, Try.f8.params[j]? = some t → args[j]? = some v → Value.okWide Try.prog W .any base t v := hval0
  have hW' := hW
  obtain ⟨p, q, hA0, hV, rfl, hfz, hnd⟩ := hW
  have hA : DataW.TrodAll enc Try.prog W 0 (fun _ => true) true Try.f8.params.toList args.toList ds p := hA0
  rw [Try.params8] at hA hval
  obtain ⟨v0, vs0, d0, ds0, p0, q0, hargs, rfl, rfl, h0, r0⟩ := trodAll_cons hA
  obtain ⟨v1, vs1, d1, ds1, p1, q1, rfl, rfl, rfl, h1, r1⟩ := trodAll_cons r0
  obtain ⟨v2, vs2, d2, ds2, p2, q2, rfl, rfl, rfl, h2, r2⟩ := trodAll_cons r1
  obtain ⟨rfl, rfl, rfl⟩ := trodAll_nil r2
  obtain rfl : args = #[v0, v1, v2] := by cases args; simp_all
  obtain ⟨rfl, rfl⟩ := trodVars_none hV
  obtain ⟨a0, rfl, rfl, rfl, w0⟩ := open_int Try.underlying29 (hval 0 29 v0 rfl rfl) h0
  obtain ⟨a1, rfl, rfl, rfl, w1⟩ := open_int Try.underlying3 (hval 1 3 v1 rfl rfl) h1
  obtain ⟨a2, rfl, rfl, rfl, w2⟩ := open_int Try.underlying3 (hval 2 3 v2 rfl rfl) h2
  clear hA0 hval0
  simp only [List.append_nil] at hW'
  refine (walk a0 a1 a2 w0 w1 w2 W).mono fun e W' ⟨he, hg⟩ => ?_
  subst he
  exact ⟨_, rfl, _, _, _, [], [], [], hW', (trodAll_cons_mk (shut_bool Try.underlying4 _) trodAll_mk0), (trodAll_cons_mk (shut_int Try.underlying29 w0) (trodAll_cons_mk (shut_int Try.underlying3 w1) (trodAll_cons_mk (shut_int Try.underlying3 w2) trodAll_mk0))), rfl, hg.frame _, fun h => by cases h⟩

theorem over : Rows.wordBitsRow.holds Try.pinned (OpenSpec.ofChange Rows.wordBitsSpec) :=
  OpenClaim.holds_of_wide 8 Try.f8 rfl rfl rfl rfl rfl rfl rfl ⟨rfl, rfl, rfl, rfl, rfl⟩ rfl rfl rfl rfl rfl (by kernel_rfl) Try.func8 (by kernel_rfl)
    (of_decide_eq_true (by kernel_rfl)) (by unfold Func.isWrapper; first | (rw [if_pos (by decide +kernel)]; kernel_rfl) | (rw [if_neg (by decide +kernel)]; exact ⟨rfl, rfl⟩))
    (fun os started H enc _ => lifted os started H enc)

theorem proved : Rows.WordBitsSaid :=
  over
#print axioms proved
end Go.Proofs.Ytlbjfggcflfmaaa.wordBits
