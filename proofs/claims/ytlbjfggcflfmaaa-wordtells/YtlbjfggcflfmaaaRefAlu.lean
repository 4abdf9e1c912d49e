/-
  What the reference answers of two words, as walks over its Go text: the same as package word, by plain arithmetic.
-/
import Derived.Test.YtlbjfggcflfmaaaRefBoth
namespace Go.Proofs.Ytlbjfggcflfmaaa.B
open Go.ChangeShapes Go.WideShapes Go.ChangeAt Go.RowKit

theorem ret2 {k : IntKind} {x y : Int} {b : Bool} (h : x = y) : Ending.returned (.tuple #[.int k x, .bool b]) = .returned (.tuple #[.int k y, .bool b]) := by rw [h]

set_option maxHeartbeats 800000 in
theorem ralu_add (a b : Int) (ha : 0 ≤ a) (ha2 : a < 4294967296) (hb : 0 ≤ b) (hb2 : b < 4294967296) (w : World) :
    Calls Try.prog 10 #[.int .i64 0, .int .u32 a, .int .u32 b] w fun e w' => e = .returned (.tuple #[.int .u32 ((a + b) % 4294967296), .bool true]) ∧ w' = w := by
  go_enter Try.func10, Try.ntmps10
  go_wp2
  go_ret2
  refine ⟨ret2 ?_, rfl⟩
  omega

set_option maxHeartbeats 800000 in
theorem ralu_sub (a b : Int) (ha : 0 ≤ a) (ha2 : a < 4294967296) (hb : 0 ≤ b) (hb2 : b < 4294967296) (w : World) :
    Calls Try.prog 10 #[.int .i64 16, .int .u32 a, .int .u32 b] w fun e w' => e = .returned (.tuple #[.int .u32 ((a - b) % 4294967296), .bool true]) ∧ w' = w := by
  go_enter Try.func10, Try.ntmps10
  go_wp2
  go_ret2
  refine ⟨ret2 ?_, rfl⟩
  omega
set_option maxHeartbeats 800000 in
theorem ralu_mul (a b : Int) (ha : 0 ≤ a) (ha2 : a < 4294967296) (hb : 0 ≤ b) (hb2 : b < 4294967296) (w : World) :
    Calls Try.prog 10 #[.int .i64 32, .int .u32 a, .int .u32 b] w fun e w' => e = .returned (.tuple #[.int .u32 (a * b % 4294967296), .bool true]) ∧ w' = w := by
  have p0 : 0 ≤ a * b := Int.mul_nonneg ha hb
  have p1 := Int.mul_le_mul (show a ≤ 4294967295 by omega) (show b ≤ 4294967295 by omega) hb (by omega)
  go_enter Try.func10, Try.ntmps10
  go_wp2
  go_ret2
  refine ⟨ret2 ?_, rfl⟩
  generalize a * b = c at *
  omega
set_option maxHeartbeats 800000 in
theorem ralu_div0 (a : Int) (w : World) :
    Calls Try.prog 10 #[.int .i64 48, .int .u32 a, .int .u32 0] w fun e w' => e = .returned (.tuple #[.int .u32 0, .bool false]) ∧ w' = w := by
  go_enter Try.func10, Try.ntmps10
  go_wp2
  go_ret2
  exact ⟨rfl, rfl⟩
set_option maxHeartbeats 800000 in
theorem ralu_div (a b : Int) (ha : 0 ≤ a) (ha2 : a < 4294967296) (hb : 0 < b) (hb2 : b < 4294967296) (w : World) :
    Calls Try.prog 10 #[.int .i64 48, .int .u32 a, .int .u32 b] w fun e w' => e = .returned (.tuple #[.int .u32 (a / b % 4294967296), .bool true]) ∧ w' = w := by
  have z1 : (b == 0) = false := by simp; omega
  go_enter Try.func10, Try.ntmps10
  go_wp2
  go_ret2
  refine ⟨ret2 ?_, rfl⟩
  rfl
set_option maxHeartbeats 800000 in
theorem ralu_neg (a b : Int) (ha : 0 ≤ a) (ha2 : a < 4294967296) (w : World) :
    Calls Try.prog 10 #[.int .i64 128, .int .u32 a, .int .u32 b] w fun e w' => e = .returned (.tuple #[.int .u32 (-a % 4294967296), .bool true]) ∧ w' = w := by
  go_enter Try.func10, Try.ntmps10
  go_wp2
  go_ret2
  refine ⟨ret2 ?_, rfl⟩
  omega

theorem both_or (a b : Nat) (ha : a < 4294967296) (hb : b < 4294967296) (w : World) :
    Calls Try.prog 24 #[.int .u32 (a : Int), .int .u32 (b : Int), .int .i64 0, .int .i64 1, .int .i64 1] w fun e w' => e = .returned (.int .u32 (bits .or .u32 (a : Int) (b : Int))) ∧ Below w.heap.size w w' := by
  rw [M.or32 a b ha hb, ← M.comb_or a b ha hb]
  exact both_any a b 0 1 1 (by omega) (by omega) (by omega) ha hb w
theorem both_and (a b : Nat) (ha : a < 4294967296) (hb : b < 4294967296) (w : World) :
    Calls Try.prog 24 #[.int .u32 (a : Int), .int .u32 (b : Int), .int .i64 0, .int .i64 0, .int .i64 1] w fun e w' => e = .returned (.int .u32 (bits .and .u32 (a : Int) (b : Int))) ∧ Below w.heap.size w w' := by
  rw [M.and32 a b ha hb, ← M.comb_and a b ha]
  exact both_any a b 0 0 1 (by omega) (by omega) (by omega) ha hb w
theorem both_xor (a b : Nat) (ha : a < 4294967296) (hb : b < 4294967296) (w : World) :
    Calls Try.prog 24 #[.int .u32 (a : Int), .int .u32 (b : Int), .int .i64 0, .int .i64 1, .int .i64 0] w fun e w' => e = .returned (.int .u32 (bits .xor .u32 (a : Int) (b : Int))) ∧ Below w.heap.size w w' := by
  rw [M.xor32 a b ha hb, ← M.comb_xor a b ha hb]
  exact both_any a b 0 1 0 (by omega) (by omega) (by omega) ha hb w

set_option maxHeartbeats 800000 in
theorem ralu_or (a b : Nat) (ha : a < 4294967296) (hb : b < 4294967296) (w : World) :
    Calls Try.prog 10 #[.int .i64 64, .int .u32 (a : Int), .int .u32 (b : Int)] w fun e w' => e = .returned (.tuple #[.int .u32 (bits .or .u32 (a : Int) (b : Int)), .bool true]) ∧ Below w.heap.size w w' := by
  go_enter Try.func10, Try.ntmps10
  go_wp2_with (go_at_call 24; refine (both_or a b ha hb _).mono ?_; rintro e w' ⟨rfl, hb1⟩)
  go_ret2
  exact ⟨rfl, hb1⟩
set_option maxHeartbeats 800000 in
theorem ralu_and (a b : Nat) (ha : a < 4294967296) (hb : b < 4294967296) (w : World) :
    Calls Try.prog 10 #[.int .i64 80, .int .u32 (a : Int), .int .u32 (b : Int)] w fun e w' => e = .returned (.tuple #[.int .u32 (bits .and .u32 (a : Int) (b : Int)), .bool true]) ∧ Below w.heap.size w w' := by
  go_enter Try.func10, Try.ntmps10
  go_wp2_with (go_at_call 24; refine (both_and a b ha hb _).mono ?_; rintro e w' ⟨rfl, hb1⟩)
  go_ret2
  exact ⟨rfl, hb1⟩
set_option maxHeartbeats 800000 in
theorem ralu_xor (a b : Nat) (ha : a < 4294967296) (hb : b < 4294967296) (w : World) :
    Calls Try.prog 10 #[.int .i64 160, .int .u32 (a : Int), .int .u32 (b : Int)] w fun e w' => e = .returned (.tuple #[.int .u32 (bits .xor .u32 (a : Int) (b : Int)), .bool true]) ∧ Below w.heap.size w w' := by
  go_enter Try.func10, Try.ntmps10
  go_wp2_with (go_at_call 24; refine (both_xor a b ha hb _).mono ?_; rintro e w' ⟨rfl, hb1⟩)
  go_ret2
  exact ⟨rfl, hb1⟩

theorem lsh_step (a k : Nat) : ∃ m : Nat, a * 2 ^ k % 4294967296 = m ∧ m < 4294967296 ∧ a * 2 ^ (k + 1) % 4294967296 = 2 * m % 4294967296 := by
  refine ⟨_, rfl, Nat.mod_lt _ (by omega), ?_⟩
  rw [Nat.pow_succ, ← Nat.mul_assoc]
  generalize a * 2 ^ k = x
  omega
set_option maxHeartbeats 1600000 in
theorem ralu_lsh (a b : Nat) (ha : a < 4294967296) (hb : b < 4294967296) (w : World) :
    Calls Try.prog 10 #[.int .i64 96, .int .u32 (a : Int), .int .u32 (b : Int)] w fun e w' => e = .returned (.tuple #[.int .u32 ((a * 2 ^ (b % 32) % 4294967296 : Nat) : Int), .bool true]) ∧ w' = w := by
  go_enter Try.func10, Try.ntmps10
  go_wp2
  go_loop [9, 10] (fun n i => ∃ k : Nat, k ≤ b % 32 ∧ i = .int .u32 k ∧ n = .int .u64 ((a * 2 ^ k % 4294967296 : Nat) : Int)) (fun _ i => b % 32 - (intOf i).toNat)
  case atStart => exact ⟨0, Nat.zero_le _, rfl, by rw [Nat.pow_zero, Nat.mul_one, Nat.mod_eq_of_lt ha]⟩
  case round =>
    obtain ⟨k, hk, rfl, rfl⟩ := hrel
    by_cases h : k < b % 32
    · obtain ⟨m, e1, e2, e3⟩ := lsh_step a k
      rw [e1]
      have E3 : Hid (a * 2 ^ (k + 1) % 4294967296 = 2 * m % 4294967296) := e3
      clear e1 e3
      go_wp2
      go_round
      case rel => exact ⟨k + 1, by omega, by go_num, by rw [E3.out]; go_num⟩
      case measure => simp [intOf]; omega
    · obtain rfl : k = b % 32 := by omega
      obtain ⟨m, e1, e2, e3⟩ := lsh_step a (b % 32)
      rw [e1]
      have E1 : Hid (a * 2 ^ (b % 32) % 4294967296 = m) := e1
      clear e1 e3
      go_wp2
      go_ret2
      exact ⟨ret2 (by rw [← E1.out]; simp), rfl⟩
theorem rsh_step (a k : Nat) (ha : a < 4294967296) : ∃ m : Nat, a / 2 ^ k = m ∧ m < 4294967296 ∧ a / 2 ^ (k + 1) = m / 2 := by
  refine ⟨_, rfl, Nat.lt_of_le_of_lt (Nat.div_le_self _ _) ha, ?_⟩
  rw [Nat.pow_succ, ← Nat.div_div_eq_div_mul]
set_option maxHeartbeats 1600000 in
theorem ralu_rsh (a b : Nat) (ha : a < 4294967296) (hb : b < 4294967296) (w : World) :
    Calls Try.prog 10 #[.int .i64 112, .int .u32 (a : Int), .int .u32 (b : Int)] w fun e w' => e = .returned (.tuple #[.int .u32 ((a / 2 ^ (b % 32) : Nat) : Int), .bool true]) ∧ w' = w := by
  go_enter Try.func10, Try.ntmps10
  go_wp2
  go_loop [11, 12] (fun n i => ∃ k : Nat, k ≤ b % 32 ∧ i = .int .u32 k ∧ n = .int .u64 ((a / 2 ^ k : Nat) : Int)) (fun _ i => b % 32 - (intOf i).toNat)
  case atStart => exact ⟨0, Nat.zero_le _, rfl, by rw [Nat.pow_zero, Nat.div_one]⟩
  case round =>
    obtain ⟨k, hk, rfl, rfl⟩ := hrel
    obtain ⟨m, e1, e2, e3⟩ := rsh_step a k ha
    by_cases h : k < b % 32
    · rw [e1]
      have E3 : Hid (a / 2 ^ (k + 1) = m / 2) := e3
      clear e1 e3
      go_wp2
      go_round
      case rel => exact ⟨k + 1, by omega, by go_num, by rw [E3.out]; go_num⟩
      case measure => simp [intOf]; omega
    · obtain rfl : k = b % 32 := by omega
      rw [e1]
      have E1 : Hid (a / 2 ^ (b % 32) = m) := e1
      clear e1 e3
      go_wp2
      go_ret2
      exact ⟨ret2 (by rw [← E1.out]; simp), rfl⟩

set_option maxHeartbeats 800000 in
theorem ralu_none (op a b : Int) (h0 : op ≠ 0) (h1 : op ≠ 16) (h2 : op ≠ 32) (h3 : op ≠ 48) (h4 : op ≠ 64) (h5 : op ≠ 80) (h6 : op ≠ 96) (h7 : op ≠ 112) (h8 : op ≠ 128) (h9 : op ≠ 160) (w : World) :
    Calls Try.prog 10 #[.int .i64 op, .int .u32 a, .int .u32 b] w fun e w' => e = .returned (.tuple #[.int .u32 0, .bool false]) ∧ w' = w := by
  have c0 : (op == 0) = false := by simp [h0]
  have c1 : (op == 16) = false := by simp [h1]
  have c2 : (op == 32) = false := by simp [h2]
  have c3 : (op == 48) = false := by simp [h3]
  have c4 : (op == 64) = false := by simp [h4]
  have c5 : (op == 80) = false := by simp [h5]
  have c6 : (op == 96) = false := by simp [h6]
  have c7 : (op == 112) = false := by simp [h7]
  have c8 : (op == 128) = false := by simp [h8]
  have c9 : (op == 160) = false := by simp [h9]
  clear h0 h1 h2 h3 h4 h5 h6 h7 h8 h9
  go_enter Try.func10, Try.ntmps10
  go_wp2
  go_ret2
  exact ⟨rfl, rfl⟩

theorem ralu_any (op a b : Int) (ha : 0 ≤ a) (ha2 : a < 4294967296) (hb : 0 ≤ b) (hb2 : b < 4294967296) (w : World) :
    Calls Try.prog 10 #[.int .i64 op, .int .u32 a, .int .u32 b] w fun e w' => e = .returned (.tuple #[.int .u32 (M.val op a b), .bool (M.ok op b)]) ∧ Below w.heap.size w w' := by
  have same : ∀ {e : Ending} {w' : World} {v : Ending}, e = v ∧ w' = w → e = v ∧ Below w.heap.size w w' := fun h => ⟨h.1, by rw [h.2]; exact Below.refl _ _⟩
  by_cases h0 : op = 0
  · subst h0; exact (ralu_add a b ha ha2 hb hb2 w).mono fun _ _ h => same h
  by_cases h1 : op = 16
  · subst h1; exact (ralu_sub a b ha ha2 hb hb2 w).mono fun _ _ h => same h
  by_cases h2 : op = 32
  · subst h2; exact (ralu_mul a b ha ha2 hb hb2 w).mono fun _ _ h => same h
  by_cases h3 : op = 48
  · subst h3
    by_cases hz : b = 0
    · subst hz; exact (ralu_div0 a w).mono fun _ _ h => same h
    · rw [show M.val 48 a b = a / b % 4294967296 from (show (if b = 0 then (0 : Int) else a / b % 4294967296) = _ by rw [if_neg hz]), show M.ok 48 b = true from by simp [M.ok, hz]]
      exact (ralu_div a b ha ha2 (by omega) hb2 w).mono fun _ _ h => same h
  by_cases h4 : op = 64
  · subst h4
    obtain ⟨A, rfl⟩ := Int.eq_ofNat_of_zero_le ha
    obtain ⟨B, rfl⟩ := Int.eq_ofNat_of_zero_le hb
    exact ralu_or A B (by omega) (by omega) w
  by_cases h5 : op = 80
  · subst h5
    obtain ⟨A, rfl⟩ := Int.eq_ofNat_of_zero_le ha
    obtain ⟨B, rfl⟩ := Int.eq_ofNat_of_zero_le hb
    exact ralu_and A B (by omega) (by omega) w
  by_cases h6 : op = 96
  · subst h6
    obtain ⟨A, rfl⟩ := Int.eq_ofNat_of_zero_le ha
    obtain ⟨B, rfl⟩ := Int.eq_ofNat_of_zero_le hb
    rw [show M.val 96 (A : Int) (B : Int) = ((A * 2 ^ (B % 32) % 4294967296 : Nat) : Int) from (show (A : Int) * 2 ^ ((B : Int) % 32).toNat % 4294967296 = _ by rw [show ((B : Int) % 32).toNat = B % 32 by omega]; simp)]
    exact (ralu_lsh A B (by omega) (by omega) w).mono fun _ _ h => same h
  by_cases h7 : op = 112
  · subst h7
    obtain ⟨A, rfl⟩ := Int.eq_ofNat_of_zero_le ha
    obtain ⟨B, rfl⟩ := Int.eq_ofNat_of_zero_le hb
    rw [show M.val 112 (A : Int) (B : Int) = ((A / 2 ^ (B % 32) : Nat) : Int) from (show (A : Int) / 2 ^ ((B : Int) % 32).toNat % 4294967296 = _ by rw [M.rsh_small _ _ ha ha2, show ((B : Int) % 32).toNat = B % 32 by omega]; simp)]
    exact (ralu_rsh A B (by omega) (by omega) w).mono fun _ _ h => same h
  by_cases h8 : op = 128
  · subst h8; exact (ralu_neg a b ha ha2 w).mono fun _ _ h => same h
  by_cases h9 : op = 160
  · subst h9
    obtain ⟨A, rfl⟩ := Int.eq_ofNat_of_zero_le ha
    obtain ⟨B, rfl⟩ := Int.eq_ofNat_of_zero_le hb
    exact ralu_xor A B (by omega) (by omega) w
  rw [show M.val op a b = 0 by simp [M.val, h0, h1, h2, h3, h4, h5, h6, h7, h8, h9], show M.ok op b = false by simp [M.ok, h0, h1, h2, h3, h4, h5, h6, h7, h8, h9]]
  exact (ralu_none op a b h0 h1 h2 h3 h4 h5 h6 h7 h8 h9 w).mono fun _ _ h => same h

set_option maxHeartbeats 1600000 in
theorem rask_any (op a b : Int) (ha : 0 ≤ a) (ha2 : a < 4294967296) (hb : 0 ≤ b) (hb2 : b < 4294967296) (w : World) :
    Calls Try.prog 13 #[.int .i64 op, .int .u32 a, .int .u32 b] w fun e w' => e = .returned (.bool (M.ask op a b)) ∧ Below w.heap.size w w' := by
  by_cases h1 : op = 16
  · subst h1; rw [show M.ask 16 a b = (a == b) from rfl]
    go_enter Try.func13, Try.ntmps13
    go_wp2
    go_ret
    exact ⟨rfl, Below.refl _ _⟩
  by_cases h2 : op = 32
  · subst h2; rw [show M.ask 32 a b = decide (b < a) from rfl]
    go_enter Try.func13, Try.ntmps13
    go_wp2
    go_ret
    exact ⟨rfl, Below.refl _ _⟩
  by_cases h3 : op = 48
  · subst h3; rw [show M.ask 48 a b = decide (b ≤ a) from rfl]
    go_enter Try.func13, Try.ntmps13
    go_wp2
    go_ret
    exact ⟨rfl, Below.refl _ _⟩
  by_cases h4 : op = 64
  · subst h4
    obtain ⟨A, rfl⟩ := Int.eq_ofNat_of_zero_le ha
    obtain ⟨B, rfl⟩ := Int.eq_ofNat_of_zero_le hb
    have hn := (M.bits_range .and (A : Int) (B : Int)).1
    have fin : M.ask 64 (A : Int) (B : Int) = decide (0 < bits .and .u32 (A : Int) (B : Int)) := by
      show (bits .and .u32 (A : Int) (B : Int) != 0) = _
      rw [Bool.eq_iff_iff]; simp; omega
    rw [fin]
    clear fin hn
    go_enter Try.func13, Try.ntmps13
    go_wp2_with (go_at_call 24; refine (both_and A B (by omega) (by omega) _).mono ?_; rintro e w' ⟨rfl, hb1⟩)
    go_ret
    exact ⟨rfl, hb1⟩
  rw [show M.ask op a b = false by simp [M.ask, h1, h2, h3, h4]]
  have c1 : (op == 16) = false := by simp [h1]
  have c2 : (op == 32) = false := by simp [h2]
  have c3 : (op == 48) = false := by simp [h3]
  have c4 : (op == 64) = false := by simp [h4]
  clear h1 h2 h3 h4
  go_enter Try.func13, Try.ntmps13
  go_wp2
  go_ret
  exact ⟨rfl, Below.refl _ _⟩
end Go.Proofs.Ytlbjfggcflfmaaa.B
