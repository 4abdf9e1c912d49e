/-
  Plain laws of words of 32 bits, no Go in sight: the ring, the bits of two words, what is asked of them.
-/
import Derived.Test.YtlbjfggcflfmaabMath
namespace Go.Proofs.Ytlbjfggcflfmaab.M

theorem add_def (a b : Int) : val 0 a b = (a + b) % 4294967296 := rfl
theorem sub_def (a b : Int) : val 16 a b = (a - b) % 4294967296 := rfl
theorem mul_def (a b : Int) : val 32 a b = a * b % 4294967296 := rfl
theorem or_def (a b : Int) : val 64 a b = bits .or .u32 a b := rfl
theorem and_def (a b : Int) : val 80 a b = bits .and .u32 a b := rfl
theorem xor_def (a b : Int) : val 160 a b = bits .xor .u32 a b := rfl

theorem ring1 (a b : Int) : (val 0 a b == val 0 b a) = true := by rw [add_def, add_def, Int.add_comm]; simp
theorem ring2 (a b : Int) : (val 32 a b == val 32 b a) = true := by rw [mul_def, mul_def, Int.mul_comm]; simp
theorem ring3 (a b c : Int) : (val 0 (val 0 a b) c == val 0 a (val 0 b c)) = true := by
  simp only [add_def, beq_iff_eq]; omega
theorem ring4 (a b c : Int) : (val 32 (val 32 a b) c == val 32 a (val 32 b c)) = true := by
  simp only [mul_def, beq_iff_eq]
  rw [Int.mul_emod (a * b % 4294967296), Int.emod_emod, ← Int.mul_emod, Int.mul_emod a (b * c % 4294967296), Int.emod_emod, ← Int.mul_emod, Int.mul_assoc]
theorem ring5 (a b c : Int) : (val 32 a (val 0 b c) == val 0 (val 32 a b) (val 32 a c)) = true := by
  simp only [mul_def, add_def, beq_iff_eq]
  rw [Int.mul_emod a ((b + c) % 4294967296), Int.emod_emod, ← Int.mul_emod, Int.mul_add]
  generalize a * b = x
  generalize a * c = y
  omega
theorem ring6 (a : Int) (h0 : 0 ≤ a) (h1 : a < 4294967296) : (val 32 a 1 == a) = true := by simp only [mul_def, beq_iff_eq]; omega
theorem ring7 (a : Int) (h0 : 0 ≤ a) (h1 : a < 4294967296) : (val 0 a 0 == a) = true := by simp only [add_def, beq_iff_eq]; omega

theorem mod2 (a b : Nat) : (a &&& b) % 2 = a % 2 * (b % 2) ∧ (a ||| b) % 2 = a % 2 + b % 2 - a % 2 * (b % 2) ∧ (a ^^^ b) % 2 = (a % 2 + b % 2) % 2 := by
  have h1 := Nat.and_mod_two_pow (a := a) (b := b) (n := 1)
  have h2 := Nat.or_mod_two_pow (a := a) (b := b) (n := 1)
  have h3 := Nat.xor_mod_two_pow (a := a) (b := b) (n := 1)
  simp only [Nat.pow_one] at h1 h2 h3
  rw [h1, h2, h3]
  rcases Nat.mod_two_eq_zero_or_one a with ha | ha <;> rcases Nat.mod_two_eq_zero_or_one b with hb | hb <;> rw [ha, hb] <;> decide
theorem gate (n : Nat) : ∀ a b : Nat, a < 2 ^ n → b < 2 ^ n → (a &&& b) + (a ||| b) = a + b ∧ (a ^^^ b) + (a &&& b) = (a ||| b) := by
  induction n with
  | zero => intro a b ha hb; obtain rfl : a = 0 := by simpa using ha
            obtain rfl : b = 0 := by simpa using hb
            decide
  | succ n ih =>
    intro a b ha hb
    have := ih (a / 2) (b / 2) (by rw [Nat.pow_succ] at ha; omega) (by rw [Nat.pow_succ] at hb; omega)
    obtain ⟨m1, m2, m3⟩ := mod2 a b
    have d1 : (a &&& b) / 2 = a / 2 &&& b / 2 := Nat.and_div_two ..
    have d2 : (a ||| b) / 2 = a / 2 ||| b / 2 := Nat.or_div_two ..
    have d3 : (a ^^^ b) / 2 = a / 2 ^^^ b / 2 := Nat.xor_div_two ..
    rw [← d1, ← d2, ← d3] at this
    rcases Nat.mod_two_eq_zero_or_one a with xa | xa <;> rcases Nat.mod_two_eq_zero_or_one b with xb | xb <;> rw [xa, xb] at m1 m2 m3 <;> omega
theorem neither (a b : Nat) (ha : a < 4294967296) (hb : b < 4294967296) : (a ^^^ 4294967295) &&& (b ^^^ 4294967295) = (a ||| b) ^^^ 4294967295 := by
  apply Nat.eq_of_testBit_eq
  intro i
  have t : Nat.testBit 4294967295 i = decide (i < 32) := Nat.testBit_two_pow_sub_one 32 i
  rw [Nat.testBit_and, Nat.testBit_xor, Nat.testBit_xor, Nat.testBit_xor, Nat.testBit_or, t]
  by_cases hi : i < 32
  · simp only [hi, decide_true]; cases a.testBit i <;> cases b.testBit i <;> rfl
  · have p : 2 ^ 32 ≤ 2 ^ i := Nat.pow_le_pow_right (by omega) (by omega)
    rw [Nat.testBit_lt_two_pow (Nat.lt_of_lt_of_le ha p), Nat.testBit_lt_two_pow (Nat.lt_of_lt_of_le hb p)]
    simp [hi]
theorem gate1 (a b : Int) (ha : 0 ≤ a) (ha2 : a < 4294967296) (hb : 0 ≤ b) (hb2 : b < 4294967296) : (val 0 (val 80 a b) (val 64 a b) == val 0 a b) = true := by
  obtain ⟨A, rfl⟩ := Int.eq_ofNat_of_zero_le ha
  obtain ⟨B, rfl⟩ := Int.eq_ofNat_of_zero_le hb
  rw [and_def, or_def, and32 A B (by omega) (by omega), or32 A B (by omega) (by omega), add_def, add_def]
  have := (gate 32 A B (by omega) (by omega)).1
  simp only [beq_iff_eq]
  omega
theorem gate2 (a b : Int) (ha : 0 ≤ a) (ha2 : a < 4294967296) (hb : 0 ≤ b) (hb2 : b < 4294967296) : (val 16 (val 64 a b) (val 80 a b) == val 160 a b) = true := by
  obtain ⟨A, rfl⟩ := Int.eq_ofNat_of_zero_le ha
  obtain ⟨B, rfl⟩ := Int.eq_ofNat_of_zero_le hb
  rw [and_def, or_def, xor_def, and32 A B (by omega) (by omega), or32 A B (by omega) (by omega), xor32 A B (by omega) (by omega), sub_def]
  have := (gate 32 A B (by omega) (by omega)).2
  have := xor_lt32 A B (by omega) (by omega)
  simp only [beq_iff_eq]
  omega
theorem gate3 (a b : Int) (ha : 0 ≤ a) (ha2 : a < 4294967296) (hb : 0 ≤ b) (hb2 : b < 4294967296) : (val 80 (val 160 a 4294967295) (val 160 b 4294967295) == val 160 (val 64 a b) 4294967295) = true := by
  obtain ⟨A, rfl⟩ := Int.eq_ofNat_of_zero_le ha
  obtain ⟨B, rfl⟩ := Int.eq_ofNat_of_zero_le hb
  have x : ∀ n : Nat, n < 4294967296 → bits .xor .u32 (n : Int) 4294967295 = ((n ^^^ 4294967295 : Nat) : Int) := fun n hn => xor32 n 4294967295 hn (by omega)
  rw [xor_def, xor_def, xor_def, and_def, or_def, x A (by omega), x B (by omega), or32 A B (by omega) (by omega), x _ (or_lt32 A B (by omega) (by omega)), and32 _ _ (xor_lt32 A _ (by omega) (by omega)) (xor_lt32 B _ (by omega) (by omega)), neither A B (by omega) (by omega)]
  simp
theorem asks64 (a b : Int) : (ask 64 a b == (val 80 a b != 0)) = true := by
  show ((bits .and .u32 a b != 0) == (bits .and .u32 a b != 0)) = true
  simp
theorem asks64s (a : Int) (ha : 0 ≤ a) (ha2 : a < 4294967296) : (ask 64 a a == (a != 0)) = true := by
  obtain ⟨A, rfl⟩ := Int.eq_ofNat_of_zero_le ha
  show ((bits .and .u32 (A : Int) A != 0) == ((A : Int) != 0)) = true
  rw [and32 A A (by omega) (by omega), Nat.and_self]
  simp
end Go.Proofs.Ytlbjfggcflfmaab.M
