/-
  What the small functions of package word answer, and that the statements' own first line ('awake') is true, as walks over the Go text.
-/
import Derived.Test.YtlbjfggcflfmaaaRows
import Derived.Test.YtlbjfggcflfmaaaMath
import Derived.WalkKit
import Derived.ProofKit
import Derived.OpenShut
import Derived.WalkLawsBesides
import Derived.Laws.Shifts
import Derived.Laws.BitsAllLaws
import Derived.Deep.QuietTactic
import Derived.BigQuiet
namespace Go.Proofs.Ytlbjfggcflfmaaa.B
open Go.ChangeShapes Go.WideShapes Go.ChangeAt Go.RowKit

theorem grown_drewN (w w' : World) (n : Nat) (h : Grown w w') : Grown w (w'.drewN n) := by
  induction n with
  | zero => exact h
  | succ n ih => exact ih

set_option maxHeartbeats 800000 in
theorem ones_any (x : Int) (h0 : 0 ≤ x) (hx : x < 18446744073709551616) (w : World) :
    Calls Try.prog 18 #[.int .u64 x] w fun e w' => e = .returned (.int .i64 (M.pop 64 x.toNat : Nat)) ∧ w' = w := by
  obtain ⟨x1, x2, x3, x4, x5, x6, r1, r2, r3, r4, r5, r6, r7⟩ := M.steps x h0 hx
  clear h0 hx
  generalize ((M.pop 64 x.toNat : Nat) : Int) = y at *
  go_enter Try.func18, Try.ntmps18
  go_wp2
  go_ret
  exact ⟨rfl, rfl⟩

set_option maxHeartbeats 800000 in
theorem span_in (lo hi : Int) (h0 : 0 ≤ lo) (h1 : lo ≤ hi) (h2 : hi ≤ 63) (w : World) :
    Calls Try.prog 15 #[.int .i64 lo, .int .i64 hi] w fun e w' => e = .returned (.int .u64 (bits .and .u64 (IntKind.u64.wrap (18446744073709551615 * 2 ^ lo.toNat)) (18446744073709551615 / 2 ^ (63 - hi).toNat))) ∧ ∃ n, w' = w.drewN n := by
  go_enter Try.func15, Try.ntmps15
  go_wp2
  go_quiet (fail)
  go_wp2
  go_ret
  exact ⟨rfl, _, rfl⟩

theorem span13 (w : World) :
    Calls Try.prog 15 #[.int .i64 1, .int .i64 3] w fun e w' => e = .returned (.int .u64 14) ∧ ∃ n, w' = w.drewN n := by
  have e : bits .and .u64 (IntKind.u64.wrap (18446744073709551615 * 2 ^ (1 : Int).toNat)) (18446744073709551615 / 2 ^ (63 - (3 : Int)).toNat) = 14 := by decide +kernel
  have h := span_in 1 3 (by omega) (by omega) (by omega) w
  rw [e] at h
  exact h

theorem ones7 (w : World) :
    Calls Try.prog 18 #[.int .u64 7] w fun e w' => e = .returned (.int .i64 3) ∧ w' = w := by
  have h := ones_any 7 (by omega) (by omega) w
  have e : ((M.pop 64 (7 : Int).toNat : Nat) : Int) = 3 := by decide +kernel
  rw [e] at h
  exact h

set_option maxHeartbeats 800000 in
theorem awake_any (w : World) :
    Calls Try.prog 11 #[] w fun e w' => e = .returned (.bool true) ∧ ∃ n, w' = w.drewN n := by
  go_enter Try.func11, Try.ntmps11
  go_wp2_with (first | (go_at_call 18; refine (ones7 _).mono ?_; rintro e w' ⟨rfl, rfl⟩) | (go_at_call 15; refine (span13 _).mono ?_; rintro e w' ⟨rfl, n, rfl⟩) | go_in)
  go_ret
  exact ⟨rfl, _, rfl⟩

end Go.Proofs.Ytlbjfggcflfmaaa.B
