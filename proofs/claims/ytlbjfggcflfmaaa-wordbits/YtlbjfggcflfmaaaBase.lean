/-
  What the small functions of package word answer, and that the statements' own first line ('awake') is true, as walks over the Go text.
-/
import Derived.Test.YtlbjfggcflfmaaaRows
import Derived.Test.YtlbjfggcflfmaaaMath
import Derived.WalkKit
import Derived.ProofKit
import Derived.OpenShut
import Derived.WalkLawsBesides
import Derived.Laws.Shifts
import Derived.Laws.BitsAllLaws
import Derived.Deep.QuietTactic
import Derived.BigQuiet
import Derived.Outline
namespace Go.Proofs.Ytlbjfggcflfmaaa.B
open Go.ChangeShapes Go.WideShapes Go.ChangeAt Go.RowKit

theorem grown_drewN (w w' : World) (n : Nat) (h : Grown w w') : Grown w (w'.drewN n) := by
  induction n with
  | zero => exact h
  | succ n ih => exact ih

set_option maxHeartbeats 800000 in
theorem ones_any (x : Int) (h0 : 0 ≤ x) (hx : x < 18446744073709551616) (w : World) :
    Calls Try.prog 18 #[.int .u64 x] w fun e w' => e = .returned (.int .i64 (M.pop 64 x.toNat : Nat)) ∧ w' = w := by
  obtain ⟨x1, x2, x3, x4, x5, x6, r1, r2, r3, r4, r5, r6, r7⟩ := M.steps x h0 hx
  clear h0 hx
  generalize ((M.pop 64 x.toNat : Nat) : Int) = y at *
  go_enter Try.func18, Try.ntmps18
  go_wp2
  go_ret
  exact ⟨rfl, rfl⟩

set_option maxHeartbeats 800000 in
theorem span_any (lo hi : Int) (w : World) :
    Calls Try.prog 15 #[.int .i64 lo, .int .i64 hi] w fun e w' => e = .returned (.int .u64 (M.span lo hi)) ∧ ∃ n, w' = w.drewN n := by
  by_cases c : max lo 0 ≤ min hi 63
  · rw [show M.span lo hi = M.span (max lo 0) (min hi 63) by unfold M.span; rw [if_pos c, if_pos (by omega), show max (max lo 0) 0 = max lo 0 by omega, show min (min hi 63) 63 = min hi 63 by omega]]
    rw [← M.span_bits (max lo 0) (min hi 63) (by omega) c (by omega)]
    obtain ⟨x, hx⟩ : ∃ x, max lo 0 = x := ⟨_, rfl⟩
    obtain ⟨y, hy⟩ : ∃ y, min hi 63 = y := ⟨_, rfl⟩
    rw [hx, hy] at c
    rw [hx, hy]
    have b1 : 0 ≤ x := by omega
    have b2 : y ≤ 63 := by omega
    have f1 : (if lo < 0 then (0 : Int) else lo) = x := by omega
    have f2 : (if 63 < hi then (63 : Int) else hi) = y := by omega
    clear hx hy
    go_enter Try.func15, Try.ntmps15
    go_wp2
    go_quiet (fail)
    go_wp2
    go_ret
    exact ⟨rfl, _, rfl⟩
  · rw [show M.span lo hi = 0 by unfold M.span; rw [if_neg c]]
    obtain ⟨x, f1⟩ : ∃ x, (if lo < 0 then (0 : Int) else lo) = x := ⟨_, rfl⟩
    obtain ⟨y, f2⟩ : ∃ y, (if 63 < hi then (63 : Int) else hi) = y := ⟨_, rfl⟩
    have b : y < x := by omega
    clear c
    go_enter Try.func15, Try.ntmps15
    go_wp2
    go_ret
    exact ⟨rfl, 0, rfl⟩

theorem span13 (w : World) :
    Calls Try.prog 15 #[.int .i64 1, .int .i64 3] w fun e w' => e = .returned (.int .u64 14) ∧ ∃ n, w' = w.drewN n := by
  have h := span_any 1 3 w
  rw [show M.span 1 3 = 14 by decide +kernel] at h
  exact h

theorem ones7 (w : World) :
    Calls Try.prog 18 #[.int .u64 7] w fun e w' => e = .returned (.int .i64 3) ∧ w' = w := by
  have h := ones_any 7 (by omega) (by omega) w
  have e : ((M.pop 64 (7 : Int).toNat : Nat) : Int) = 3 := by decide +kernel
  rw [e] at h
  exact h

set_option maxHeartbeats 800000 in
theorem awake_any (w : World) :
    Calls Try.prog 11 #[] w fun e w' => e = .returned (.bool true) ∧ ∃ n, w' = w.drewN n := by
  go_enter Try.func11, Try.ntmps11
  go_wp2_with (first | (go_at_call 18; refine (ones7 _).mono ?_; rintro e w' ⟨rfl, rfl⟩) | (go_at_call 15; refine (span13 _).mono ?_; rintro e w' ⟨rfl, n, rfl⟩) | go_in)
  go_ret
  exact ⟨rfl, _, rfl⟩

set_option maxHeartbeats 4000000 in
theorem alu_any (op a b : Int) (ha : 0 ≤ a) (ha2 : a < 4294967296) (hb : 0 ≤ b) (w : World) :
    Calls Try.prog 9 #[.int .i64 op, .int .u32 a, .int .u32 b] w fun e w' => e = .returned (.tuple #[.int .u32 (M.val op a b), .bool (M.ok op b)]) ∧ w' = w := by
  by_cases h0 : op = 0
  · subst h0; rw [show M.val 0 a b = (a + b) % 4294967296 from rfl, show M.ok 0 b = true from rfl]
    go_enter Try.func9, Try.ntmps9
    go_wp2
    go_ret2
    exact ⟨rfl, rfl⟩
  by_cases h1 : op = 16
  · subst h1; rw [show M.val 16 a b = (a - b) % 4294967296 from rfl, show M.ok 16 b = true from rfl]
    go_enter Try.func9, Try.ntmps9
    go_wp2
    go_ret2
    exact ⟨rfl, rfl⟩
  by_cases h2 : op = 32
  · subst h2; rw [show M.val 32 a b = a * b % 4294967296 from rfl, show M.ok 32 b = true from rfl]
    go_enter Try.func9, Try.ntmps9
    go_wp2
    go_ret2
    exact ⟨rfl, rfl⟩
  by_cases h3 : op = 48
  · subst h3
    by_cases hz : b = 0
    · subst hz; rw [show M.val 48 a 0 = 0 from rfl, show M.ok 48 0 = false from rfl]
      go_enter Try.func9, Try.ntmps9
      go_wp2
      go_ret2
      exact ⟨rfl, rfl⟩
    · have z1 : (b == 0) = false := by simp [hz]
      rw [show M.val 48 a b = a / b from (show (if b = 0 then (0 : Int) else a / b % 4294967296) = _ by rw [if_neg hz, M.div_small a b ha ha2 hb]), show M.ok 48 b = true from by simp [M.ok, hz]]
      go_enter Try.func9, Try.ntmps9
      go_wp2
      go_ret2
      exact ⟨rfl, rfl⟩
  by_cases h4 : op = 64
  · subst h4; rw [show M.val 64 a b = bits .or .u32 a b from rfl, show M.ok 64 b = true from rfl]
    go_enter Try.func9, Try.ntmps9
    go_wp2
    go_ret2
    exact ⟨rfl, rfl⟩
  by_cases h5 : op = 80
  · subst h5; rw [show M.val 80 a b = bits .and .u32 a b from rfl, show M.ok 80 b = true from rfl]
    go_enter Try.func9, Try.ntmps9
    go_wp2
    go_ret2
    exact ⟨rfl, rfl⟩
  by_cases h6 : op = 96
  · subst h6; rw [show M.val 96 a b = a * 2 ^ (b % 32).toNat % 4294967296 from rfl, show M.ok 96 b = true from rfl]
    have hs : 0 ≤ b % 32 := by omega
    go_enter Try.func9, Try.ntmps9
    go_wp2
    go_ret2
    exact ⟨rfl, rfl⟩
  by_cases h7 : op = 112
  · subst h7; rw [show M.val 112 a b = a / 2 ^ (b % 32).toNat from M.rsh_small a _ ha ha2, show M.ok 112 b = true from rfl]
    have hs : 0 ≤ b % 32 := by omega
    go_enter Try.func9, Try.ntmps9
    go_wp2
    go_ret2
    exact ⟨rfl, rfl⟩
  by_cases h8 : op = 128
  · subst h8; rw [show M.val 128 a b = -a % 4294967296 from rfl, show M.ok 128 b = true from rfl]
    go_enter Try.func9, Try.ntmps9
    go_wp2
    go_ret2
    exact ⟨rfl, rfl⟩
  by_cases h9 : op = 160
  · subst h9; rw [show M.val 160 a b = bits .xor .u32 a b from rfl, show M.ok 160 b = true from rfl]
    go_enter Try.func9, Try.ntmps9
    go_wp2
    go_ret2
    exact ⟨rfl, rfl⟩
  rw [show M.val op a b = 0 by simp [M.val, h0, h1, h2, h3, h4, h5, h6, h7, h8, h9], show M.ok op b = false by simp [M.ok, h0, h1, h2, h3, h4, h5, h6, h7, h8, h9]]
  have c0 : (op == 0) = false := by simp [h0]
  have c1 : (op == 16) = false := by simp [h1]
  have c2 : (op == 32) = false := by simp [h2]
  have c3 : (op == 48) = false := by simp [h3]
  have c4 : (op == 64) = false := by simp [h4]
  have c5 : (op == 80) = false := by simp [h5]
  have c6 : (op == 96) = false := by simp [h6]
  have c7 : (op == 112) = false := by simp [h7]
  have c8 : (op == 128) = false := by simp [h8]
  have c9 : (op == 160) = false := by simp [h9]
  clear h0 h1 h2 h3 h4 h5 h6 h7 h8 h9
  go_enter Try.func9, Try.ntmps9
  go_wp2
  go_ret2
  exact ⟨rfl, rfl⟩

set_option maxHeartbeats 4000000 in
theorem ask_any (op a b : Int) (w : World) :
    Calls Try.prog 12 #[.int .i64 op, .int .u32 a, .int .u32 b] w fun e w' => e = .returned (.bool (M.ask op a b)) ∧ w' = w := by
  by_cases h1 : op = 16
  · subst h1; rw [show M.ask 16 a b = (a == b) from rfl]
    go_enter Try.func12, Try.ntmps12
    go_wp2
    go_ret
    exact ⟨rfl, rfl⟩
  by_cases h2 : op = 32
  · subst h2; rw [show M.ask 32 a b = decide (b < a) from rfl]
    go_enter Try.func12, Try.ntmps12
    go_wp2
    go_ret
    exact ⟨rfl, rfl⟩
  by_cases h3 : op = 48
  · subst h3; rw [show M.ask 48 a b = decide (b ≤ a) from rfl]
    go_enter Try.func12, Try.ntmps12
    go_wp2
    go_ret
    exact ⟨rfl, rfl⟩
  by_cases h4 : op = 64
  · subst h4; rw [show M.ask 64 a b = (bits .and .u32 a b != 0) from rfl]
    go_enter Try.func12, Try.ntmps12
    go_wp2
    go_ret
    exact ⟨rfl, rfl⟩
  rw [show M.ask op a b = false by simp [M.ask, h1, h2, h3, h4]]
  have c1 : (op == 16) = false := by simp [h1]
  have c2 : (op == 32) = false := by simp [h2]
  have c3 : (op == 48) = false := by simp [h3]
  have c4 : (op == 64) = false := by simp [h4]
  clear h1 h2 h3 h4
  go_enter Try.func12, Try.ntmps12
  go_wp2
  go_ret
  exact ⟨rfl, rfl⟩

end Go.Proofs.Ytlbjfggcflfmaaa.B
