/-
  Bits of a pair of words, how many of them are 1, and spans of them: what package word answers and what the reference answers, as walks over the Go text.
-/
import Derived.Test.YtlbjfggcflfmaaaRefBits
namespace Go.Proofs.Ytlbjfggcflfmaaa.M

/-- How many of the lower k bits are 1. -/
def psum (n : Nat) : Nat → Nat
  | 0 => 0
  | k + 1 => psum n k + bt n k
theorem psum_le (n k : Nat) : psum n k ≤ k := by
  induction k with
  | zero => simp [psum]
  | succ k ih => have := bt_le n k; simp only [psum]; omega
theorem psum_shift (n k : Nat) : psum n (k + 1) = n % 2 + psum (n / 2) k := by
  induction k with
  | zero => simp [psum, bt]
  | succ k ih =>
    rw [psum, ih, psum]
    have : bt n (k + 1) = bt (n / 2) k := by unfold bt; rw [Nat.pow_succ', Nat.div_div_eq_div_mul]
    omega
theorem pop_psum (k n : Nat) : pop k n = psum n k := by
  induction k generalizing n with
  | zero => rfl
  | succ k ih => rw [psum_shift, pop, ih]
theorem spanN_eq (l h : Nat) (hl : l ≤ h) : spanN l h = (2 ^ (h + 1 - l) - 1) <<< l := by
  unfold spanN
  rw [Nat.shiftLeft_eq, Nat.sub_mul, ← Nat.pow_add, show h + 1 - l + l = h + 1 by omega, Nat.one_mul]
theorem spanN_bt (l h t : Nat) (hl : l ≤ h) : bt (spanN l h) t = if l ≤ t ∧ t ≤ h then 1 else 0 := by
  rw [bt_testBit, spanN_eq l h hl, Nat.testBit_shiftLeft, Nat.testBit_two_pow_sub_one]
  by_cases c : l ≤ t ∧ t ≤ h
  · rw [if_pos c, if_pos (by simp; omega)]
  · rw [if_neg c, if_neg (by simp; omega)]
theorem spanN_lt (l h : Nat) (hh : h ≤ 63) : spanN l h < 18446744073709551616 := by
  unfold spanN
  have h1 : 2 ^ (h + 1) ≤ 2 ^ 64 := Nat.pow_le_pow_right (by omega) (by omega)
  have h2 := Nat.two_pow_pos l
  omega
theorem span_nat (lo hi : Int) : ∃ s : Nat, span lo hi = (s : Int) ∧ s < 18446744073709551616 ∧ ∀ t : Nat, t ≤ 63 → bt s t = if lo ≤ (t : Int) ∧ (t : Int) ≤ hi then 1 else 0 := by
  unfold span
  by_cases c : max lo 0 ≤ min hi 63
  · rw [if_pos c]
    refine ⟨_, rfl, spanN_lt _ _ (by omega), fun t ht => ?_⟩
    rw [spanN_bt _ _ _ (by omega)]
    by_cases d : lo ≤ (t : Int) ∧ (t : Int) ≤ hi
    · rw [if_pos d, if_pos (by omega)]
    · rw [if_neg d, if_neg (by omega)]
  · rw [if_neg c]
    refine ⟨0, rfl, by omega, fun t ht => ?_⟩
    rw [if_neg (by omega)]
    simp [bt]
/-- Whether bit i is 1; there are the bits 0 to 63 alone. -/
def bit (n i : Int) : Bool := decide (0 ≤ i ∧ i ≤ 63) && (bt n.toNat i.toNat == 1)
theorem bit_in (n : Nat) (i : Nat) (h : i ≤ 63) : bit (n : Int) (i : Int) = (bt n i == 1) := by
  unfold bit
  rw [Int.toNat_natCast, Int.toNat_natCast, decide_eq_true (by omega)]; rfl
theorem bit_out (n i : Int) (h : ¬ (0 ≤ i ∧ i ≤ 63)) : bit n i = false := by unfold bit; rw [decide_eq_false h]; rfl
theorem bit_walk (n i : Nat) (hn : n < 18446744073709551616) : bits .and .u64 ((n : Int) / 2 ^ i) 1 = ((bt n i : Nat) : Int) := by
  have e : (n : Int) / 2 ^ i = ((n / 2 ^ i : Nat) : Int) := by simp
  have l : n / 2 ^ i ≤ n := Nat.div_le_self _ _
  rw [e]
  unfold bt
  generalize n / 2 ^ i = m at *
  rw [u64_and _ _ (by omega) (by omega) (by omega) (by omega), Int.toNat_natCast]
  have e1 : (1 : Int).toNat = 1 := rfl
  rw [e1, and_one]
end Go.Proofs.Ytlbjfggcflfmaaa.M
namespace Go.Proofs.Ytlbjfggcflfmaaa.B
open Go.ChangeShapes Go.WideShapes Go.ChangeAt Go.RowKit

set_option maxHeartbeats 800000 in
theorem bit_any (n : Nat) (hn : n < 18446744073709551616) (i : Int) (w : World) :
    Calls Try.prog 21 #[.int .u64 (n : Int), .int .i64 i] w fun e w' => e = .returned (.bool (M.bit (n : Int) i)) ∧ w' = w := by
  by_cases c : 0 ≤ i ∧ i ≤ 63
  · obtain ⟨h0, h1⟩ := c
    obtain ⟨j, rfl⟩ := Int.eq_ofNat_of_zero_le h0
    rw [M.bit_in n j (by omega)]
    have e1 := M.bit_walk n j hn
    have b1 := M.bt_le n j
    obtain ⟨d, hd⟩ : ∃ d, M.bt n j = d := ⟨_, rfl⟩
    rw [hd] at e1 b1
    rw [hd]
    clear hd hn
    obtain rfl | rfl : d = 0 ∨ d = 1 := by omega
    all_goals
      go_enter Try.func21, Try.ntmps21
      go_wp2
      go_ret
      exact ⟨rfl, rfl⟩
  · rw [M.bit_out _ _ c]
    clear hn
    obtain c1 | c1 : i < 0 ∨ (0 ≤ i ∧ 63 < i) := by omega
    · go_enter Try.func21, Try.ntmps21
      go_wp2
      go_ret
      exact ⟨rfl, rfl⟩
    · obtain ⟨c2, c3⟩ := c1
      clear c
      go_enter Try.func21, Try.ntmps21
      go_wp2
      go_ret
      exact ⟨rfl, rfl⟩

set_option maxHeartbeats 800000 in
theorem rbit_any (n : Nat) (i : Int) (w : World) :
    Calls Try.prog 22 #[.int .u64 (n : Int), .int .i64 i] w fun e w' => e = .returned (.bool (M.bit (n : Int) i)) ∧ Below w.heap.size w w' := by
  by_cases c : 0 ≤ i ∧ i ≤ 63
  · obtain ⟨h0, h1⟩ := c
    obtain ⟨j, rfl⟩ := Int.eq_ofNat_of_zero_le h0
    rw [M.bit_in n j (by omega)]
    obtain ⟨d, hd⟩ : ∃ d, M.bt n j = d := ⟨_, rfl⟩
    have b1 := M.bt_le n j
    have HD : Hid (M.bt n j = d) := hd
    rw [hd] at b1
    rw [hd]
    clear hd
    obtain rfl | rfl : d = 0 ∨ d = 1 := by omega
    all_goals
      go_enter Try.func22, Try.ntmps22
      go_wp2_with fail
      refine (bits_any n _).mono ?_
      rintro e wa ⟨ga, ca, rfl, ga1, ga2, hca, hba⟩
      have hcj := hca j (by omega)
      rw [HD.out] at hcj
      clear hca
      go_wp2
      go_ret
      exact ⟨rfl, hba⟩
  · rw [M.bit_out _ _ c]
    obtain c1 | c1 : i < 0 ∨ (0 ≤ i ∧ 63 < i) := by omega
    · go_enter Try.func22, Try.ntmps22
      go_wp2
      go_ret
      exact ⟨rfl, Below.refl _ _⟩
    · obtain ⟨c2, c3⟩ := c1
      clear c
      go_enter Try.func22, Try.ntmps22
      go_wp2
      go_ret
      exact ⟨rfl, Below.refl _ _⟩

set_option maxHeartbeats 800000 in
theorem rones_any (n : Nat) (w : World) :
    Calls Try.prog 19 #[.int .u64 (n : Int)] w fun e w' => e = .returned (.int .i64 ((M.psum n 64 : Nat) : Int)) ∧ Below w.heap.size w w' := by
  go_enter Try.func19, Try.ntmps19
  go_wp2_with fail
  refine (bits_any n _).mono ?_
  rintro e wa ⟨ga, ca, rfl, ga1, ga2, hca, hba⟩
  go_wp2
  go_loop [4, 5] (fun c i => ∃ k : Nat, k ≤ 64 ∧ i = .int .i64 k ∧ c = .int .i64 ((M.psum n k : Nat) : Int)) (fun _ i => 64 - (intOf i).toNat)
  case atStart => exact ⟨0, Nat.zero_le _, rfl, rfl⟩
  case round =>
    obtain ⟨k, hk, rfl, rfl⟩ := hrel
    have pl := M.psum_le n k
    by_cases h : k < 64
    · have hcj := hca k h
      have b1 := M.bt_le n k
      have E : Hid (M.psum n (k + 1) = M.psum n k + M.bt n k) := rfl
      clear hca
      go_wp2
      go_round
      case rel => exact ⟨k + 1, by omega, by go_num, by rw [E.out]; go_num⟩
      case measure => simp [intOf]; omega
    · obtain rfl : k = 64 := by omega
      clear hca
      go_wp2
      go_ret
      exact ⟨rfl, hba⟩

theorem span_step (s t : Nat) : s / 2 ^ t = 2 * (s / 2 ^ (t + 1)) + M.bt s t := by
  unfold M.bt
  rw [Nat.pow_succ, ← Nat.div_div_eq_div_mul]
  omega

set_option maxHeartbeats 1600000 in
theorem rspan_any (lo hi : Int) (w : World) :
    Calls Try.prog 20 #[.int .i64 lo, .int .i64 hi] w fun e w' => e = .returned (.int .u64 (M.span lo hi)) ∧ w' = w := by
  obtain ⟨s, e1, e2, e3⟩ := M.span_nat lo hi
  rw [e1]
  have HS : Hid (∀ t : Nat, t ≤ 63 → M.bt s t = if lo ≤ (t : Int) ∧ (t : Int) ≤ hi then 1 else 0) := e3
  clear e1 e3
  go_enter Try.func20, Try.ntmps20
  go_wp2
  go_loop [5, 6] (fun n i => ∃ t : Int, -1 ≤ t ∧ t ≤ 63 ∧ i = .int .i64 t ∧ n = .int .u64 ((s / 2 ^ (t + 1).toNat : Nat) : Int)) (fun _ i => (intOf i + 1).toNat)
  case atStart => exact ⟨63, by omega, by omega, rfl, by rw [show ((63 : Int) + 1).toNat = 64 from rfl, Nat.div_eq_of_lt (by simpa using e2)]; rfl⟩
  case round =>
    obtain ⟨t, ht1, ht2, rfl, rfl⟩ := hrel
    by_cases h : 0 ≤ t
    · obtain ⟨j, rfl⟩ := Int.eq_ofNat_of_zero_le h
      have st := span_step s j
      have hb := HS.out j (by omega)
      have hd : s / 2 ^ j ≤ s := Nat.div_le_self _ _
      obtain ⟨m, em⟩ : ∃ m, s / 2 ^ (j + 1) = m := ⟨_, rfl⟩
      rw [show ((j : Int) + 1).toNat = j + 1 by omega, em]
      rw [em] at st
      by_cases c : lo ≤ (j : Int) ∧ (j : Int) ≤ hi
      · rw [if_pos c] at hb
        obtain ⟨c1, c2⟩ := c
        rw [hb] at st
        have ST : Hid (s / 2 ^ j = 2 * m + 1) := st
        have bd : 2 * m + 1 < 18446744073709551616 := by omega
        clear hb st hd em e2 h
        go_wp2
        go_round
        case rel =>
          refine ⟨(j : Int) - 1, by omega, by omega, rfl, ?_⟩
          rw [show ((j : Int) - 1 + 1).toNat = j by omega, ST.out]
          go_num
        case measure => simp [intOf]
      · rw [if_neg c] at hb
        rw [hb] at st
        have ST : Hid (s / 2 ^ j = 2 * m + 0) := st
        have bd : 2 * m < 18446744073709551616 := by omega
        clear hb st hd em e2 h
        obtain c1 | ⟨c1, c2⟩ : (j : Int) < lo ∨ (lo ≤ (j : Int) ∧ hi < (j : Int)) := by omega
        all_goals
          clear c
          go_wp2
          go_round
          case rel =>
            refine ⟨(j : Int) - 1, by omega, by omega, rfl, ?_⟩
            rw [show ((j : Int) - 1 + 1).toNat = j by omega, ST.out]
            go_num
          case measure => simp [intOf]
    · obtain rfl : t = -1 := by omega
      rw [show ((-1 : Int) + 1).toNat = 0 from rfl, Nat.pow_zero, Nat.div_one]
      clear e2
      go_wp2
      go_ret
      exact ⟨rfl, rfl⟩
end Go.Proofs.Ytlbjfggcflfmaaa.B
