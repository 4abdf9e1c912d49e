/-
  Plain facts on natural numbers and words of 32 and 64 bits, no Go in sight: how many bits of a word are 1 is what math/bits reckons with its masks; laws of the operations on words as the walk spells them.
-/
import Derived.Laws.BitsAllLaws
import Derived.Laws.Bits128
import Derived.WalkKit
import Derived.OpenShut
import Derived.Test.YtkeigicobcjleabRows
import Derived.ProofKit
import Derived.WalkLawsBesides
import Derived.Laws.Shifts
import Derived.Deep.QuietTactic
import Derived.BigQuiet
import Derived.Outline
namespace Go.Proofs.Ytkeigicobcjleab.WM
open Go.RowKit

theorem and_step (q r x m : Nat) (hr : r < 2 ^ q) : x &&& (r + 2 ^ q * m) = (x % 2 ^ q &&& r) + 2 ^ q * (x / 2 ^ q &&& m) := by
  have e := Nat.mod_add_div (x &&& (r + 2 ^ q * m)) (2 ^ q)
  rw [Nat.and_mod_two_pow, Nat.and_div_two_pow] at e
  rw [← e]
  have h1 : (r + 2 ^ q * m) % 2 ^ q = r := by rw [Nat.add_mul_mod_self_left]; exact Nat.mod_eq_of_lt hr
  have h2 : (r + 2 ^ q * m) / 2 ^ q = m := by rw [Nat.add_mul_div_left _ _ (Nat.two_pow_pos q), Nat.div_eq_of_lt hr]; omega
  rw [h1, h2]
def pop : Nat → Nat → Nat
  | 0, _ => 0
  | k + 1, x => x % 2 + pop k (x / 2)
def m1 : Nat → Nat
  | 0 => 0
  | k + 1 => 1 + 4 * m1 k
def m2 : Nat → Nat
  | 0 => 0
  | k + 1 => 3 + 16 * m2 k
def m4 : Nat → Nat
  | 0 => 0
  | k + 1 => 15 + 256 * m4 k
def s1 (k x : Nat) : Nat := (x / 2 &&& m1 k) + (x &&& m1 k)
def s2 (k x : Nat) : Nat := (x / 4 &&& m2 k) + (x &&& m2 k)
def s4 (k x : Nat) : Nat := (x / 16 + x) &&& m4 k
theorem and_one (x : Nat) : x &&& 1 = x % 2 := by simp
theorem and_three (x : Nat) : x &&& 3 = x % 4 := by simpa using Nat.and_two_pow_sub_one_eq_mod x 2
theorem and_15 (x : Nat) : x &&& 15 = x % 16 := by simpa using Nat.and_two_pow_sub_one_eq_mod x 4
theorem s1_succ (k x : Nat) : s1 (k + 1) x = (x / 2 % 2 + x % 2) + 4 * s1 k (x / 4) := by
  have a := and_step 2 1 (x / 2) (m1 k) (by omega)
  have b := and_step 2 1 x (m1 k) (by omega)
  simp only [Nat.reducePow, and_one] at a b
  show (x / 2 &&& (1 + 4 * m1 k)) + (x &&& (1 + 4 * m1 k)) = (x / 2 % 2 + x % 2) + 4 * ((x / 4 / 2 &&& m1 k) + (x / 4 &&& m1 k))
  rw [a, b, show x / 2 / 4 = x / 4 / 2 by omega]
  generalize (x / 4 / 2 &&& m1 k) = A
  generalize (x / 4 &&& m1 k) = B
  omega
theorem s2_succ (k x : Nat) : s2 (k + 1) x = (x / 4 % 4 + x % 4) + 16 * s2 k (x / 16) := by
  have a := and_step 4 3 (x / 4) (m2 k) (by omega)
  have b := and_step 4 3 x (m2 k) (by omega)
  simp only [Nat.reducePow, and_three] at a b
  show (x / 4 &&& (3 + 16 * m2 k)) + (x &&& (3 + 16 * m2 k)) = (x / 4 % 4 + x % 4) + 16 * ((x / 16 / 4 &&& m2 k) + (x / 16 &&& m2 k))
  rw [a, b, show x / 4 / 16 = x / 16 / 4 by omega]
  generalize (x / 16 / 4 &&& m2 k) = A
  generalize (x / 16 &&& m2 k) = B
  omega
theorem s4_succ (k x : Nat) : s4 (k + 1) x = (x / 16 + x) % 16 + 256 * ((x / 16 + x) / 256 &&& m4 k) := by
  have a := and_step 8 15 (x / 16 + x) (m4 k) (by omega)
  simp only [Nat.reducePow, and_15] at a
  show ((x / 16 + x) &&& (15 + 256 * m4 k)) = _
  rw [a]
  generalize ((x / 16 + x) / 256 &&& m4 k) = A
  omega
def t2 (k x : Nat) : Nat := s2 k (s1 (2 * k) x)
theorem nib (p q y : Nat) (hp : p ≤ 2) (hq : q ≤ 2) : (p + 4 * (q + 4 * y)) / 16 = y ∧ (p + 4 * (q + 4 * y)) / 4 % 4 = q ∧ (p + 4 * (q + 4 * y)) % 4 = p := by omega
theorem t2_succ (k x : Nat) : t2 (k + 1) x = ((x / 2 % 2 + x % 2) + (x / 4 / 2 % 2 + x / 4 % 2)) + 16 * t2 k (x / 16) := by
  unfold t2
  rw [show 2 * (k + 1) = 2 * k + 1 + 1 by omega, s2_succ, s1_succ, s1_succ, show x / 4 / 4 = x / 16 by omega]
  generalize s1 (2 * k) (x / 16) = y
  have hp : x / 2 % 2 + x % 2 ≤ 2 := by omega
  have hq : x / 4 / 2 % 2 + x / 4 % 2 ≤ 2 := by omega
  generalize x / 2 % 2 + x % 2 = p at *
  generalize x / 4 / 2 % 2 + x / 4 % 2 = q at *
  obtain ⟨e1, e2, e3⟩ := nib p q y hp hq
  rw [e1, e2, e3]
  omega
theorem t2_zero (x : Nat) : t2 0 x = 0 := by simp [t2, s2, m2]
theorem t2_mod (k x : Nat) : t2 k x % 16 ≤ 4 := by
  cases k with
  | zero => rw [t2_zero]; omega
  | succ k =>
    rw [t2_succ]
    have hp : x / 2 % 2 + x % 2 ≤ 2 := by omega
    have hq : x / 4 / 2 % 2 + x / 4 % 2 ≤ 2 := by omega
    generalize x / 2 % 2 + x % 2 = p at *
    generalize x / 4 / 2 % 2 + x / 4 % 2 = q at *
    generalize t2 k (x / 16) = y
    omega
def t4 (k x : Nat) : Nat := s4 k (t2 (2 * k) x)
theorem t4_zero (x : Nat) : t4 0 x = 0 := by simp [t4, s4, m4]
theorem byt (a b y : Nat) (ha : a ≤ 4) (hb : b ≤ 4) (hy : y % 16 ≤ 4) : ((a + 16 * (b + 16 * y)) / 16 + (a + 16 * (b + 16 * y))) / 256 = y / 16 + y ∧ ((a + 16 * (b + 16 * y)) / 16 + (a + 16 * (b + 16 * y))) % 16 = a + b := by
  have h1 : (a + 16 * (b + 16 * y)) / 16 = b + 16 * y := by omega
  rw [h1]
  omega
theorem t4_succ (k x : Nat) : t4 (k + 1) x = pop 8 x + 256 * t4 k (x / 256) := by
  unfold t4
  rw [show 2 * (k + 1) = 2 * k + 1 + 1 by omega, s4_succ, t2_succ, t2_succ, show x / 16 / 16 = x / 256 by omega]
  have h := t2_mod (2 * k) (x / 256)
  generalize t2 (2 * k) (x / 256) = y at h ⊢
  have ep : pop 8 x = (x / 2 % 2 + x % 2 + (x / 4 / 2 % 2 + x / 4 % 2)) + (x / 16 / 2 % 2 + x / 16 % 2 + (x / 16 / 4 / 2 % 2 + x / 16 / 4 % 2)) := by
    simp only [pop]
    rw [show x / 2 / 2 = x / 4 by omega, show x / 4 / 2 / 2 = x / 16 by omega, show x / 16 / 2 / 2 = x / 16 / 4 by omega]
    omega
  rw [ep]
  have ha : x / 2 % 2 + x % 2 + (x / 4 / 2 % 2 + x / 4 % 2) ≤ 4 := by omega
  have hb : x / 16 / 2 % 2 + x / 16 % 2 + (x / 16 / 4 / 2 % 2 + x / 16 / 4 % 2) ≤ 4 := by omega
  clear ep
  generalize x / 2 % 2 + x % 2 + (x / 4 / 2 % 2 + x / 4 % 2) = a at *
  generalize x / 16 / 2 % 2 + x / 16 % 2 + (x / 16 / 4 / 2 % 2 + x / 16 / 4 % 2) = b at *
  obtain ⟨e1, e2⟩ := byt a b y ha hb h
  rw [e1, e2]
  rfl
theorem pop_le (k x : Nat) : pop k x ≤ k := by
  induction k generalizing x with
  | zero => simp [pop]
  | succ k ih => simp only [pop]; have := ih (x / 2); omega
theorem pop_add (j k x : Nat) : pop (j + k) x = pop j x + pop k (x / 2 ^ j) := by
  induction j generalizing x with
  | zero => simp [pop]
  | succ j ih => rw [show j + 1 + k = (j + k) + 1 by omega]; simp only [pop]; rw [ih, Nat.div_div_eq_div_mul, show 2 * 2 ^ j = 2 ^ (j + 1) from Nat.pow_succ'.symm]; omega
def fin (y : Nat) : Nat := ((y + y / 256) + (y + y / 256) / 65536) + ((y + y / 256) + (y + y / 256) / 65536) / 4294967296
theorem split8 (c y : Nat) (h : c ≤ 8) : (c + 256 * y) / 256 = y := by omega
theorem fin_eq (c0 c1 c2 c3 c4 c5 c6 c7 : Nat) (h0 : c0 ≤ 8) (h1 : c1 ≤ 8) (h2 : c2 ≤ 8) (h3 : c3 ≤ 8) (h4 : c4 ≤ 8) (h5 : c5 ≤ 8) (h6 : c6 ≤ 8) (h7 : c7 ≤ 8) :
    fin (c0 + 256 * (c1 + 256 * (c2 + 256 * (c3 + 256 * (c4 + 256 * (c5 + 256 * (c6 + 256 * (c7 + 256 * 0)))))))) % 128 = c0 + (c1 + (c2 + (c3 + (c4 + (c5 + (c6 + (c7 + 0))))))) := by
  unfold fin
  rw [split8 _ _ h0]
  have a1 : c0 + 256 * (c1 + 256 * (c2 + 256 * (c3 + 256 * (c4 + 256 * (c5 + 256 * (c6 + 256 * (c7 + 256 * 0))))))) + (c1 + 256 * (c2 + 256 * (c3 + 256 * (c4 + 256 * (c5 + 256 * (c6 + 256 * (c7 + 256 * 0))))))) = ((c0 + c1) + 256 * (c1 + c2)) + 65536 * ((c2 + c3) + 256 * ((c3 + c4) + 256 * ((c4 + c5) + 256 * ((c5 + c6) + 256 * ((c6 + c7) + 256 * c7))))) := by omega
  rw [a1]
  have a2 : (((c0 + c1) + 256 * (c1 + c2)) + 65536 * ((c2 + c3) + 256 * ((c3 + c4) + 256 * ((c4 + c5) + 256 * ((c5 + c6) + 256 * ((c6 + c7) + 256 * c7)))))) / 65536 = (c2 + c3) + 256 * ((c3 + c4) + 256 * ((c4 + c5) + 256 * ((c5 + c6) + 256 * ((c6 + c7) + 256 * c7)))) := by
    generalize (c2 + c3) + 256 * ((c3 + c4) + 256 * ((c4 + c5) + 256 * ((c5 + c6) + 256 * ((c6 + c7) + 256 * c7)))) = T
    omega
  rw [a2]
  clear a1 a2
  have a3 : c0 + c1 + 256 * (c1 + c2) + 65536 * (c2 + c3 + 256 * (c3 + c4 + 256 * (c4 + c5 + 256 * (c5 + c6 + 256 * (c6 + c7 + 256 * c7))))) + (c2 + c3 + 256 * (c3 + c4 + 256 * (c4 + c5 + 256 * (c5 + c6 + 256 * (c6 + c7 + 256 * c7))))) = ((c0 + c1 + c2 + c3) + 256 * (c1 + c2 + c3 + c4) + 65536 * (c2 + c3 + c4 + c5) + 16777216 * (c3 + c4 + c5 + c6)) + 4294967296 * ((c4 + c5 + c6 + c7) + 256 * ((c5 + c6 + c7) + 256 * ((c6 + c7) + 256 * c7))) := by omega
  rw [a3]
  have a4 : (((c0 + c1 + c2 + c3) + 256 * (c1 + c2 + c3 + c4) + 65536 * (c2 + c3 + c4 + c5) + 16777216 * (c3 + c4 + c5 + c6)) + 4294967296 * ((c4 + c5 + c6 + c7) + 256 * ((c5 + c6 + c7) + 256 * ((c6 + c7) + 256 * c7)))) / 4294967296 = (c4 + c5 + c6 + c7) + 256 * ((c5 + c6 + c7) + 256 * ((c6 + c7) + 256 * c7)) := by
    generalize (c4 + c5 + c6 + c7) + 256 * ((c5 + c6 + c7) + 256 * ((c6 + c7) + 256 * c7)) = T
    have hb : (c0 + c1 + c2 + c3) + 256 * (c1 + c2 + c3 + c4) + 65536 * (c2 + c3 + c4 + c5) + 16777216 * (c3 + c4 + c5 + c6) < 4294967296 := by omega
    generalize (c0 + c1 + c2 + c3) + 256 * (c1 + c2 + c3 + c4) + 65536 * (c2 + c3 + c4 + c5) + 16777216 * (c3 + c4 + c5 + c6) = L at *
    omega
  rw [a4]
  clear a3 a4
  omega
theorem pop64 (x : Nat) : fin (t4 8 x) % 128 = pop 64 x := by
  have e8 : ∀ y, pop 8 y ≤ 8 := pop_le 8
  have s : ∀ k y, pop (8 + k) y = pop 8 y + pop k (y / 256) := fun k y => pop_add 8 k y
  have e : pop 64 x = pop 8 x + (pop 8 (x / 256) + (pop 8 (x / 256 / 256) + (pop 8 (x / 256 / 256 / 256) + (pop 8 (x / 256 / 256 / 256 / 256) + (pop 8 (x / 256 / 256 / 256 / 256 / 256) + (pop 8 (x / 256 / 256 / 256 / 256 / 256 / 256) + (pop 8 (x / 256 / 256 / 256 / 256 / 256 / 256 / 256) + 0))))))) := by
    rw [show (64 : Nat) = 8 + 56 by omega, s, show (56 : Nat) = 8 + 48 by omega, s, show (48 : Nat) = 8 + 40 by omega, s, show (40 : Nat) = 8 + 32 by omega, s, show (32 : Nat) = 8 + 24 by omega, s, show (24 : Nat) = 8 + 16 by omega, s, show (16 : Nat) = 8 + 8 by omega, s]
    omega
  rw [e]
  rw [t4_succ, t4_succ, t4_succ, t4_succ, t4_succ, t4_succ, t4_succ, t4_succ, t4_zero]
  exact fin_eq _ _ _ _ _ _ _ _ (e8 _) (e8 _) (e8 _) (e8 _) (e8 _) (e8 _) (e8 _) (e8 _)

theorem r1 (n : Nat) (hn : n < 18446744073709551616) : IntKind.u64.wrap (bits .and .u64 ((n : Int) / 2) 6148914691236517205 + bits .and .u64 (n : Int) 6148914691236517205) = ((s1 32 n : Nat) : Int) := by
  rw [u64_and _ _ (by omega) (by omega) (by omega) (by omega), u64_and _ _ (by omega) (by omega) (by omega) (by omega), IntKind.wrap_u64]
  have e : s1 32 n = (n / 2 &&& 6148914691236517205) + (n &&& 6148914691236517205) := rfl
  have h1 : n / 2 &&& 6148914691236517205 ≤ 6148914691236517205 := Nat.and_le_right
  have h2 : n &&& 6148914691236517205 ≤ 6148914691236517205 := Nat.and_le_right
  rw [e]
  have e1 : ((n : Int) / 2).toNat = n / 2 := by omega
  have e2 : (6148914691236517205 : Int).toNat = 6148914691236517205 := rfl
  rw [e1, e2, Int.toNat_natCast]
  generalize n / 2 &&& 6148914691236517205 = A at *
  generalize n &&& 6148914691236517205 = B at *
  omega
theorem s1_lt (n : Nat) : s1 32 n < 18446744073709551616 := by
  have e : s1 32 n = (n / 2 &&& 6148914691236517205) + (n &&& 6148914691236517205) := rfl
  have h1 : n / 2 &&& 6148914691236517205 ≤ 6148914691236517205 := Nat.and_le_right
  have h2 : n &&& 6148914691236517205 ≤ 6148914691236517205 := Nat.and_le_right
  omega
theorem s2_le (n : Nat) : s2 16 n ≤ 7378697629483820646 := by
  have e : s2 16 n = (n / 4 &&& 3689348814741910323) + (n &&& 3689348814741910323) := rfl
  have h1 : n / 4 &&& 3689348814741910323 ≤ 3689348814741910323 := Nat.and_le_right
  have h2 : n &&& 3689348814741910323 ≤ 3689348814741910323 := Nat.and_le_right
  omega
theorem s4_le (n : Nat) : s4 8 n ≤ 1085102592571150095 := by
  have e : s4 8 n = ((n / 16 + n) &&& 1085102592571150095) := rfl
  rw [e]; exact Nat.and_le_right
theorem r2 (n : Nat) (hn : n < 18446744073709551616) : IntKind.u64.wrap (bits .and .u64 ((n : Int) / 4) 3689348814741910323 + bits .and .u64 (n : Int) 3689348814741910323) = ((s2 16 n : Nat) : Int) := by
  rw [u64_and _ _ (by omega) (by omega) (by omega) (by omega), u64_and _ _ (by omega) (by omega) (by omega) (by omega), IntKind.wrap_u64]
  have e : s2 16 n = (n / 4 &&& 3689348814741910323) + (n &&& 3689348814741910323) := rfl
  have h1 : n / 4 &&& 3689348814741910323 ≤ 3689348814741910323 := Nat.and_le_right
  have h2 : n &&& 3689348814741910323 ≤ 3689348814741910323 := Nat.and_le_right
  rw [e]
  have e1 : ((n : Int) / 4).toNat = n / 4 := by omega
  have e2 : (3689348814741910323 : Int).toNat = 3689348814741910323 := rfl
  rw [e1, e2, Int.toNat_natCast]
  generalize n / 4 &&& 3689348814741910323 = A at *
  generalize n &&& 3689348814741910323 = B at *
  omega
theorem r3 (n : Nat) (hn : n ≤ 7378697629483820646) : bits .and .u64 (IntKind.u64.wrap ((n : Int) / 16 + (n : Int))) 1085102592571150095 = ((s4 8 n : Nat) : Int) := by
  have e0 : IntKind.u64.wrap ((n : Int) / 16 + (n : Int)) = ((n / 16 + n : Nat) : Int) := by rw [IntKind.wrap_u64]; omega
  rw [e0, u64_and _ _ (by omega) (by omega) (by omega) (by omega)]
  have e2 : (1085102592571150095 : Int).toNat = 1085102592571150095 := rfl
  rw [e2, Int.toNat_natCast]
  rfl
theorem r4 (n : Nat) (hn : n ≤ 1085102592571150095) : IntKind.u64.wrap ((n : Int) + (n : Int) / 256) = ((n + n / 256 : Nat) : Int) := by rw [IntKind.wrap_u64]; omega
theorem r5 (n : Nat) (hn : n ≤ 2000000000000000000) : IntKind.u64.wrap ((n : Int) + (n : Int) / 65536) = ((n + n / 65536 : Nat) : Int) := by rw [IntKind.wrap_u64]; omega
theorem r6 (n : Nat) (hn : n ≤ 3000000000000000000) : IntKind.u64.wrap ((n : Int) + (n : Int) / 4294967296) = ((n + n / 4294967296 : Nat) : Int) := by rw [IntKind.wrap_u64]; omega
theorem r7 (n : Nat) : bits .and .i64 (wrap64 (n : Int)) 127 = ((n % 128 : Nat) : Int) := by
  rw [i64_and127]
  unfold wrap64
  omega

/-- Of a word of 64 bits the steps of math/bits come to how many of its bits are 1. -/
theorem steps (x : Int) (h0 : 0 ≤ x) (hx : x < 18446744073709551616) : ∃ x1 x2 x3 x4 x5 x6 : Int,
    IntKind.u64.wrap (bits .and .u64 (x / 2) 6148914691236517205 + bits .and .u64 x 6148914691236517205) = x1
    ∧ IntKind.u64.wrap (bits .and .u64 (x1 / 4) 3689348814741910323 + bits .and .u64 x1 3689348814741910323) = x2
    ∧ bits .and .u64 (IntKind.u64.wrap (x2 / 16 + x2)) 1085102592571150095 = x3
    ∧ IntKind.u64.wrap (x3 + x3 / 256) = x4
    ∧ IntKind.u64.wrap (x4 + x4 / 65536) = x5
    ∧ IntKind.u64.wrap (x5 + x5 / 4294967296) = x6
    ∧ bits .and .i64 (wrap64 x6) 127 = ((pop 64 x.toNat : Nat) : Int) := by
  obtain ⟨n, rfl⟩ := Int.eq_ofNat_of_zero_le h0
  refine ⟨_, _, _, _, _, _, r1 n (by omega), r2 (s1 32 n) (s1_lt n), r3 (s2 16 (s1 32 n)) (s2_le _), r4 (s4 8 (s2 16 (s1 32 n))) (s4_le _), r5 _ ?_, r6 _ ?_, ?_⟩
  · have := s4_le (s2 16 (s1 32 n)); omega
  · have := s4_le (s2 16 (s1 32 n)); omega
  · rw [r7, Int.toNat_natCast, ← pop64 n]
    rfl

/-! words of 32 bits, as the walk spells them -/
theorem wf32 {a : Int} (h : (Lit.int .u32 a).wf = true) : 0 ≤ a ∧ a < 4294967296 := by
  have := bounds_u32 h; omega
theorem nat32 {a : Int} (h : (Lit.int .u32 a).wf = true) : ∃ n : Nat, a = (n : Int) ∧ n < 4294967296 := by
  have := wf32 h
  exact ⟨a.toNat, by omega, by omega⟩
theorem xor32 (a b : Nat) (ha : a < 4294967296) (hb : b < 4294967296) : bits .xor .u32 (a : Int) (b : Int) = ((a ^^^ b : Nat) : Int) := by
  rw [u32_xor _ _ (by omega) (by omega) (by omega) (by omega), Int.toNat_natCast, Int.toNat_natCast]
theorem and32 (a b : Nat) (ha : a < 4294967296) (hb : b < 4294967296) : bits .and .u32 (a : Int) (b : Int) = ((a &&& b : Nat) : Int) := by
  rw [u32_and _ _ (by omega) (by omega) (by omega) (by omega), Int.toNat_natCast, Int.toNat_natCast]
theorem or32 (a b : Nat) (ha : a < 4294967296) (hb : b < 4294967296) : bits .or .u32 (a : Int) (b : Int) = ((a ||| b : Nat) : Int) := by
  rw [u32_or _ _ (by omega) (by omega) (by omega) (by omega), Int.toNat_natCast, Int.toNat_natCast]
theorem xor_lt32 (a b : Nat) (ha : a < 4294967296) (hb : b < 4294967296) : a ^^^ b < 4294967296 := Nat.xor_lt_two_pow (n := 32) ha hb
theorem and_lt32 (a b : Nat) (ha : a < 4294967296) : a &&& b < 4294967296 := Nat.lt_of_le_of_lt Nat.and_le_left ha
theorem or_lt32 (a b : Nat) (ha : a < 4294967296) (hb : b < 4294967296) : a ||| b < 4294967296 := Nat.or_lt_two_pow (n := 32) ha hb
theorem xor_back (a b : Nat) : (a ^^^ b) ^^^ b = a := by
  rw [Nat.xor_assoc, Nat.xor_self, Nat.xor_zero]

/-- What comes of two words by the operation that the document numbers 'op': the value; 0 where there is none. -/
def val (op a b : Int) : Int :=
  if op = 0 then (a + b) % 4294967296 else if op = 16 then (a - b) % 4294967296 else if op = 32 then a * b % 4294967296
  else if op = 48 then (if b = 0 then 0 else a / b % 4294967296) else if op = 64 then bits .or .u32 a b else if op = 80 then bits .and .u32 a b
  else if op = 96 then a * 2 ^ (b % 32).toNat % 4294967296 else if op = 112 then a / 2 ^ (b % 32).toNat % 4294967296
  else if op = 128 then -a % 4294967296 else if op = 160 then bits .xor .u32 a b else 0
/-- Whether there is a value. -/
def ok (op b : Int) : Bool := op == 0 || op == 16 || op == 32 || (op == 48 && b != 0) || op == 64 || op == 80 || op == 96 || op == 112 || op == 128 || op == 160
/-- Whether 'op' is so of two words. -/
def ask (op a b : Int) : Bool := if op = 16 then a == b else if op = 32 then decide (b < a) else if op = 48 then decide (b ≤ a) else if op = 64 then bits .and .u32 a b != 0 else false
theorem wrap_range (n : Int) : 0 ≤ IntKind.u32.wrap n ∧ IntKind.u32.wrap n < 4294967296 := by rw [IntKind.wrap_u32']; omega
theorem bits_range (o : BinOp) (a b : Int) : 0 ≤ bits o .u32 a b ∧ bits o .u32 a b < 4294967296 := by unfold bits; exact wrap_range _
theorem val_range (op a b : Int) : 0 ≤ val op a b ∧ val op a b < 4294967296 := by
  unfold val
  have m := fun n : Int => (show 0 ≤ n % 4294967296 ∧ n % 4294967296 < 4294967296 by omega)
  repeat' split
  all_goals first | exact m _ | exact bits_range _ _ _ | omega
theorem val_nonneg (op a b : Int) : 0 ≤ val op a b := (val_range op a b).1
theorem val_lt (op a b : Int) : val op a b < 4294967296 := (val_range op a b).2
theorem rsh_small (a : Int) (k : Nat) (h0 : 0 ≤ a) (h1 : a < 4294967296) : a / 2 ^ k % 4294967296 = a / 2 ^ k := by
  have p : (0 : Int) < 2 ^ k := Int.pow_pos (by decide)
  have l := Int.ediv_nonneg h0 (Int.le_of_lt p)
  have u := Int.ediv_le_self (b := 2 ^ k) h0
  omega

theorem div_small (a b : Int) (h0 : 0 ≤ a) (h1 : a < 4294967296) (hb : 0 ≤ b) : a / b % 4294967296 = a / b := by
  have l := Int.ediv_nonneg h0 hb
  have u := Int.ediv_le_self (b := b) h0
  omega

/-- The bits from lo to hi, of those there are, as a number. -/
def spanN (lo hi : Nat) : Nat := 2 ^ (hi + 1) - 2 ^ lo
def span (lo hi : Int) : Int := if max lo 0 ≤ min hi 63 then (spanN (max lo 0).toNat (min hi 63).toNat : Nat) else 0
theorem span_fin : ∀ lo hi : Fin 64, lo.val ≤ hi.val → ((18446744073709551615 * 2 ^ lo.val % 18446744073709551616) &&& (18446744073709551615 / 2 ^ (63 - hi.val))) = spanN lo.val hi.val := by decide +kernel
theorem span_bits (lo hi : Int) (h0 : 0 ≤ lo) (h1 : lo ≤ hi) (h2 : hi ≤ 63) : bits .and .u64 (IntKind.u64.wrap (18446744073709551615 * 2 ^ lo.toNat)) (18446744073709551615 / 2 ^ (63 - hi).toNat) = span lo hi := by
  obtain ⟨l, rfl⟩ := Int.eq_ofNat_of_zero_le h0
  obtain ⟨h, rfl⟩ := Int.eq_ofNat_of_zero_le (show 0 ≤ hi by omega)
  have e1 : IntKind.u64.wrap (18446744073709551615 * 2 ^ ((l : Int)).toNat) = ((18446744073709551615 * 2 ^ l % 18446744073709551616 : Nat) : Int) := by
    rw [IntKind.wrap_u64, Int.toNat_natCast]; simp
  have e2 : (18446744073709551615 : Int) / 2 ^ (63 - (h : Int)).toNat = ((18446744073709551615 / 2 ^ (63 - h) : Nat) : Int) := by
    rw [show (63 - (h : Int)).toNat = 63 - h by omega]; simp
  have b2 : 18446744073709551615 / 2 ^ (63 - h) ≤ 18446744073709551615 := Nat.div_le_self _ _
  have b1 : 18446744073709551615 * 2 ^ l % 18446744073709551616 < 18446744073709551616 := Nat.mod_lt _ (by omega)
  have f := span_fin ⟨l, by omega⟩ ⟨h, by omega⟩ (show l ≤ h by omega)
  simp only at f
  rw [e1, e2]
  generalize 18446744073709551615 * 2 ^ l % 18446744073709551616 = x at *
  generalize 18446744073709551615 / 2 ^ (63 - h) = y at *
  rw [u64_and _ _ (by omega) (by omega) (by omega) (by omega), Int.toNat_natCast, Int.toNat_natCast, f]
  unfold span
  rw [if_pos (by omega), show (max (l : Int) 0).toNat = l by omega, show (min (h : Int) 63).toNat = h by omega]

end Go.Proofs.Ytkeigicobcjleab.WM
namespace Go.Proofs.Ytkeigicobcjleab.WB
open Go.ChangeShapes Go.WideShapes Go.ChangeAt Go.RowKit

theorem grown_drewN (w w' : World) (n : Nat) (h : Grown w w') : Grown w (w'.drewN n) := by
  induction n with
  | zero => exact h
  | succ n ih => exact ih

set_option maxHeartbeats 4000000 in
theorem alu_any (op a b : Int) (ha : 0 ≤ a) (ha2 : a < 4294967296) (hb : 0 ≤ b) (w : World) :
    Calls Try.prog 54 #[.int .i64 op, .int .u32 a, .int .u32 b] w fun e w' => e = .returned (.tuple #[.int .u32 (WM.val op a b), .bool (WM.ok op b)]) ∧ w' = w := by
  by_cases h0 : op = 0
  · subst h0; rw [show WM.val 0 a b = (a + b) % 4294967296 from rfl, show WM.ok 0 b = true from rfl]
    go_enter Try.func54, Try.ntmps54
    go_wp2
    go_ret2
    exact ⟨rfl, rfl⟩
  by_cases h1 : op = 16
  · subst h1; rw [show WM.val 16 a b = (a - b) % 4294967296 from rfl, show WM.ok 16 b = true from rfl]
    go_enter Try.func54, Try.ntmps54
    go_wp2
    go_ret2
    exact ⟨rfl, rfl⟩
  by_cases h2 : op = 32
  · subst h2; rw [show WM.val 32 a b = a * b % 4294967296 from rfl, show WM.ok 32 b = true from rfl]
    go_enter Try.func54, Try.ntmps54
    go_wp2
    go_ret2
    exact ⟨rfl, rfl⟩
  by_cases h3 : op = 48
  · subst h3
    by_cases hz : b = 0
    · subst hz; rw [show WM.val 48 a 0 = 0 from rfl, show WM.ok 48 0 = false from rfl]
      go_enter Try.func54, Try.ntmps54
      go_wp2
      go_ret2
      exact ⟨rfl, rfl⟩
    · have z1 : (b == 0) = false := by simp [hz]
      rw [show WM.val 48 a b = a / b from (show (if b = 0 then (0 : Int) else a / b % 4294967296) = _ by rw [if_neg hz, WM.div_small a b ha ha2 hb]), show WM.ok 48 b = true from by simp [WM.ok, hz]]
      go_enter Try.func54, Try.ntmps54
      go_wp2
      go_ret2
      exact ⟨rfl, rfl⟩
  by_cases h4 : op = 64
  · subst h4; rw [show WM.val 64 a b = bits .or .u32 a b from rfl, show WM.ok 64 b = true from rfl]
    go_enter Try.func54, Try.ntmps54
    go_wp2
    go_ret2
    exact ⟨rfl, rfl⟩
  by_cases h5 : op = 80
  · subst h5; rw [show WM.val 80 a b = bits .and .u32 a b from rfl, show WM.ok 80 b = true from rfl]
    go_enter Try.func54, Try.ntmps54
    go_wp2
    go_ret2
    exact ⟨rfl, rfl⟩
  by_cases h6 : op = 96
  · subst h6; rw [show WM.val 96 a b = a * 2 ^ (b % 32).toNat % 4294967296 from rfl, show WM.ok 96 b = true from rfl]
    have hs : 0 ≤ b % 32 := by omega
    go_enter Try.func54, Try.ntmps54
    go_wp2
    go_ret2
    exact ⟨rfl, rfl⟩
  by_cases h7 : op = 112
  · subst h7; rw [show WM.val 112 a b = a / 2 ^ (b % 32).toNat from WM.rsh_small a _ ha ha2, show WM.ok 112 b = true from rfl]
    have hs : 0 ≤ b % 32 := by omega
    go_enter Try.func54, Try.ntmps54
    go_wp2
    go_ret2
    exact ⟨rfl, rfl⟩
  by_cases h8 : op = 128
  · subst h8; rw [show WM.val 128 a b = -a % 4294967296 from rfl, show WM.ok 128 b = true from rfl]
    go_enter Try.func54, Try.ntmps54
    go_wp2
    go_ret2
    exact ⟨rfl, rfl⟩
  by_cases h9 : op = 160
  · subst h9; rw [show WM.val 160 a b = bits .xor .u32 a b from rfl, show WM.ok 160 b = true from rfl]
    go_enter Try.func54, Try.ntmps54
    go_wp2
    go_ret2
    exact ⟨rfl, rfl⟩
  rw [show WM.val op a b = 0 by simp [WM.val, h0, h1, h2, h3, h4, h5, h6, h7, h8, h9], show WM.ok op b = false by simp [WM.ok, h0, h1, h2, h3, h4, h5, h6, h7, h8, h9]]
  have c0 : (op == 0) = false := by simp [h0]
  have c1 : (op == 16) = false := by simp [h1]
  have c2 : (op == 32) = false := by simp [h2]
  have c3 : (op == 48) = false := by simp [h3]
  have c4 : (op == 64) = false := by simp [h4]
  have c5 : (op == 80) = false := by simp [h5]
  have c6 : (op == 96) = false := by simp [h6]
  have c7 : (op == 112) = false := by simp [h7]
  have c8 : (op == 128) = false := by simp [h8]
  have c9 : (op == 160) = false := by simp [h9]
  clear h0 h1 h2 h3 h4 h5 h6 h7 h8 h9
  go_enter Try.func54, Try.ntmps54
  go_wp2
  go_ret2
  exact ⟨rfl, rfl⟩

set_option maxHeartbeats 4000000 in
theorem ask_any (op a b : Int) (w : World) :
    Calls Try.prog 33 #[.int .i64 op, .int .u32 a, .int .u32 b] w fun e w' => e = .returned (.bool (WM.ask op a b)) ∧ w' = w := by
  by_cases h1 : op = 16
  · subst h1; rw [show WM.ask 16 a b = (a == b) from rfl]
    go_enter Try.func33, Try.ntmps33
    go_wp2
    go_ret
    exact ⟨rfl, rfl⟩
  by_cases h2 : op = 32
  · subst h2; rw [show WM.ask 32 a b = decide (b < a) from rfl]
    go_enter Try.func33, Try.ntmps33
    go_wp2
    go_ret
    exact ⟨rfl, rfl⟩
  by_cases h3 : op = 48
  · subst h3; rw [show WM.ask 48 a b = decide (b ≤ a) from rfl]
    go_enter Try.func33, Try.ntmps33
    go_wp2
    go_ret
    exact ⟨rfl, rfl⟩
  by_cases h4 : op = 64
  · subst h4; rw [show WM.ask 64 a b = (bits .and .u32 a b != 0) from rfl]
    go_enter Try.func33, Try.ntmps33
    go_wp2
    go_ret
    exact ⟨rfl, rfl⟩
  rw [show WM.ask op a b = false by simp [WM.ask, h1, h2, h3, h4]]
  have c1 : (op == 16) = false := by simp [h1]
  have c2 : (op == 32) = false := by simp [h2]
  have c3 : (op == 48) = false := by simp [h3]
  have c4 : (op == 64) = false := by simp [h4]
  clear h1 h2 h3 h4
  go_enter Try.func33, Try.ntmps33
  go_wp2
  go_ret
  exact ⟨rfl, rfl⟩

end Go.Proofs.Ytkeigicobcjleab.WB
namespace Go.Proofs.Ytkeigicobcjleab.WM

/-- Bit i of n, as a number. -/
def bt (n i : Nat) : Nat := n / 2 ^ i % 2
theorem bt_le (n i : Nat) : bt n i ≤ 1 := by unfold bt; omega
theorem bt_walk (n k : Nat) : RowKit.wrap64 (((n : Int) / 2 ^ k).tmod 2) = ((bt n k : Nat) : Int) := by
  have e : (n : Int) / 2 ^ k = ((n / 2 ^ k : Nat) : Int) := by simp
  rw [e]
  unfold RowKit.wrap64 bt
  generalize n / 2 ^ k = m
  rw [Int.tmod_eq_emod_of_nonneg (by omega)]
  omega
/-- The lower k bits, the least first. -/
def bl (n k : Nat) : List Int := (List.range k).map fun i => ((bt n i : Nat) : Int)
theorem bl_succ (n k : Nat) : bl n (k + 1) = bl n k ++ [((bt n k : Nat) : Int)] := by simp [bl, List.range_succ]
theorem bl_len (n k : Nat) : (bl n k).length = k := by simp [bl]
theorem bl_get (n k j : Nat) (h : j < k) : ((bl n k).map (Value.int .i64))[j]? = some (.int .i64 ((bt n j : Nat) : Int)) := by simp [bl, h]
/-- A number made of the digits z 31, z 30 .., the first k of them. -/
def hor (z : Nat → Nat) : Nat → Nat
  | 0 => 0
  | k + 1 => 2 * hor z k + z (31 - k)
theorem hor_lt (z : Nat → Nat) (hz : ∀ i, z i ≤ 1) (k : Nat) : hor z k < 2 ^ k := by
  induction k with
  | zero => simp [hor]
  | succ k ih => have := hz (31 - k); rw [Nat.pow_succ]; simp only [hor]; omega
theorem hor_bt (n k : Nat) (hk : k ≤ 32) (hn : n < 4294967296) : hor (bt n) k = n / 2 ^ (32 - k) := by
  induction k with
  | zero => simp only [hor]; rw [show 32 - 0 = 32 by omega, Nat.div_eq_of_lt (by simpa using hn)]
  | succ k ih =>
    simp only [hor]
    rw [ih (by omega)]
    unfold bt
    have e : 32 - k = 31 - k + 1 := by omega
    rw [e, Nat.pow_succ, ← Nat.div_div_eq_div_mul, show 32 - (k + 1) = 31 - k by omega]
    generalize n / 2 ^ (31 - k) = m
    omega
theorem hor_full (n : Nat) (hn : n < 4294967296) : hor (bt n) 32 = n := by
  rw [hor_bt n 32 (by omega) hn]; simp
theorem hor_congr (z y : Nat → Nat) (h : ∀ i, i < 32 → z i = y i) (k : Nat) (hk : k ≤ 32) : hor z k = hor y k := by
  induction k with
  | zero => rfl
  | succ k ih => simp only [hor]; rw [ih (by omega), h (31 - k) (by omega)]
theorem bt_testBit (n i : Nat) : bt n i = if n.testBit i then 1 else 0 := by
  unfold bt
  rw [Nat.testBit_eq_decide_div_mod_eq]
  by_cases h : n / 2 ^ i % 2 = 1
  · simp [h]
  · simp [h]; omega
/-- What is picked by the sum of two bits. -/
def pick (p0 p1 p2 s : Nat) : Nat := if s = 0 then p0 else if s = 1 then p1 else p2
theorem pick_le (p0 p1 p2 s : Nat) (h0 : p0 ≤ 1) (h1 : p1 ≤ 1) (h2 : p2 ≤ 1) : pick p0 p1 p2 s ≤ 1 := by
  unfold pick
  repeat' split
  all_goals assumption
theorem pick_and (a b i : Nat) : pick 0 0 1 (bt a i + bt b i) = bt (a &&& b) i := by
  rw [bt_testBit, bt_testBit, bt_testBit, Nat.testBit_and]; cases a.testBit i <;> cases b.testBit i <;> rfl
theorem pick_or (a b i : Nat) : pick 0 1 1 (bt a i + bt b i) = bt (a ||| b) i := by
  rw [bt_testBit, bt_testBit, bt_testBit, Nat.testBit_or]; cases a.testBit i <;> cases b.testBit i <;> rfl
theorem pick_xor (a b i : Nat) : pick 0 1 0 (bt a i + bt b i) = bt (a ^^^ b) i := by
  rw [bt_testBit, bt_testBit, bt_testBit, Nat.testBit_xor]; cases a.testBit i <;> cases b.testBit i <;> rfl
/-- Bit by bit: the number. -/
def comb (a b p0 p1 p2 : Nat) : Nat := hor (fun i => pick p0 p1 p2 (bt a i + bt b i)) 32
theorem comb_and (a b : Nat) (ha : a < 4294967296) : comb a b 0 0 1 = a &&& b := by
  unfold comb
  rw [hor_congr _ (bt (a &&& b)) (fun i _ => pick_and a b i) 32 (by omega), hor_full _ (and_lt32 a b ha)]
theorem comb_or (a b : Nat) (ha : a < 4294967296) (hb : b < 4294967296) : comb a b 0 1 1 = a ||| b := by
  unfold comb
  rw [hor_congr _ (bt (a ||| b)) (fun i _ => pick_or a b i) 32 (by omega), hor_full _ (or_lt32 a b ha hb)]
theorem comb_xor (a b : Nat) (ha : a < 4294967296) (hb : b < 4294967296) : comb a b 0 1 0 = a ^^^ b := by
  unfold comb
  rw [hor_congr _ (bt (a ^^^ b)) (fun i _ => pick_xor a b i) 32 (by omega), hor_full _ (xor_lt32 a b ha hb)]
end Go.Proofs.Ytkeigicobcjleab.WM
namespace Go.Proofs.Ytkeigicobcjleab.WB
open Go.ChangeShapes Go.WideShapes Go.ChangeAt Go.RowKit

theorem info3 : (Try.prog.info? 3).map (fun i => (i.zero, i.size, i.bytes)) = some (some (.int .i64 0), 1, 8) := by kernel_rfl

theorem rel_bit {w wr w1 : World} {v v' : Value} {n k : Nat} (hown' : w1.ownsRow w.heap.size 3 1 v' (k + 1) ((WM.bl n k).map (Value.int .i64) ++ [.int .i64 ((WM.bt n k : Nat) : Int)]))
    (hown : wr.ownsRow w.heap.size 3 1 v k ((WM.bl n k).map (Value.int .i64))) (hnx : Below w.heap.size w wr) (o : Obj) (hgrow : (wr.alloc o).grownBy w1 v.ownBlock) :
    w1.ownsRow w.heap.size 3 1 v' (k + 1) ((WM.bl n (k + 1)).map (Value.int .i64)) ∧ Below w.heap.size w w1 := by
  refine ⟨by rw [WM.bl_succ, List.map_append]; exact hown', ?_⟩
  have hs := hnx.size
  refine (hnx.alloc hs o).grown hgrow (by simp; omega) ?_
  intro j hj
  rcases hown.2 with ⟨h', _⟩ | ⟨g, cap, cur, h', hb, _⟩
  · subst h'; simp [Value.ownBlock] at hj
  · subst h'; simp [Value.ownBlock] at hj; omega

theorem own_cells {w : World} {base n k : Nat} {v : Value} (h : w.ownsRow base 3 1 v k ((WM.bl n k).map (Value.int .i64))) (hk : 0 < k) :
    ∃ g cap, v = .slice (some ⟨g, 0, none⟩) k cap ∧ base ≤ g ∧ g < w.heap.size ∧ ∀ j : Nat, j < k → w.cell? ⟨g, j, none⟩ = some (.int .i64 ((WM.bt n j : Nat) : Int)) := by
  rcases h.2 with ⟨h', h0⟩ | ⟨g, cap, cur, h', hb, hg, _⟩
  · omega
  · subst h'
    refine ⟨g, cap, rfl, hb, ?_, fun j hj => ?_⟩
    · rcases Nat.lt_or_ge g w.heap.size with h1 | h1
      · exact h1
      · rw [Array.getElem?_eq_none h1] at hg; cases hg
    · rw [h.cellAt j (by omega), WM.bl_get n k j hj]

set_option maxHeartbeats 1600000 in
set_option maxRecDepth 1000000 in
theorem bits_any (n : Nat) (w : World) :
    Calls Try.prog 36 #[.int .u64 (n : Int)] w fun e w' => ∃ g cap, e = .returned (.slice (some ⟨g, 0, none⟩) 64 cap) ∧ w.heap.size ≤ g ∧ g < w'.heap.size ∧ (∀ j : Nat, j < 64 → w'.cell? ⟨g, j, none⟩ = some (.int .i64 ((WM.bt n j : Nat) : Int))) ∧ Below w.heap.size w w' := by
  obtain ⟨i0, hi, hz0, hz1, hz2⟩ := info_parts info3
  go_enter Try.func36, Try.ntmps36
  go_wp2
  go_loopw [3, 4] (fun v i wr => ∃ k : Nat, k ≤ 64 ∧ i = .int .i64 k ∧ wr.ownsRow w.heap.size 3 1 v k ((WM.bl n k).map (Value.int .i64)) ∧ Below w.heap.size w wr)
    (fun _ i _ => 64 - (intOf i).toNat)
  case atStart => exact ⟨0, Nat.zero_le _, rfl, World.ownsRow_nil _ _ _ _, Below.refl _ _⟩
  case round =>
    obtain ⟨k, hk, rfl, hown, hnx⟩ := hrel
    by_cases hlt : k < 64
    · have e1 := WM.bt_walk n k
      go_wp2_with (first
        | (at_builtin; refine wpList_append_own _ rfl _ _ 83 rfl w.heap.size 3 i0 (.int .i64 0) 1 8 Try.underlying83 hi hz0 hz1 hz2 rfl (by decide) _ _ _ rfl (hown.alloc _) ⟨wr.heap.size, 0, none⟩ 1 1 [.int .i64 ((WM.bt n k : Nat) : Int)] rfl rfl ?c1 ?c2 ?c3 ?c4 ?c5 ?_)
        | go_in)
      case c1 =>
        intro j u hj
        match j, hj with
        | 0, hj => simp at hj; subst hj; simp [Addr.add]
      case c2 => intro u hu; simp at hu; subst hu; rfl
      case c3 => unfold maxLen; omega
      case c4 => omega
      case c5 => have := hnx.size; simp; omega
      · intro v' w1 hown' hgrow _
        have R := rel_bit hown' hown hnx _ hgrow
        clear hown' hgrow hown hnx
        go_wp2
        go_roundw
        case rel => exact ⟨k + 1, by omega, by go_num, R.1, R.2⟩
        case measure => simp [intOf]; omega
    · obtain rfl : k = 64 := by omega
      obtain ⟨g, cap, hv, h1, h2, h3⟩ := own_cells hown (by omega)
      rw [hv]
      clear hown hv
      go_wp2
      go_ret
      exact ⟨g, cap, rfl, h1, h2, h3, hnx⟩
end Go.Proofs.Ytkeigicobcjleab.WB
namespace Go.Proofs.Ytkeigicobcjleab.WB
open Go.ChangeShapes Go.WideShapes Go.ChangeAt Go.RowKit

theorem hor_step (z : Nat → Nat) (hz : ∀ i, z i ≤ 1) (j : Nat) (hj : j ≤ 31) : ∃ m d : Nat, WM.hor z (31 - j) = m ∧ z j = d ∧ WM.hor z (32 - j) = 2 * m + d ∧ m ≤ 2147483647 ∧ d ≤ 1 := by
  refine ⟨_, _, rfl, rfl, ?_, ?_, hz j⟩
  · rw [show 32 - j = 31 - j + 1 by omega]
    simp only [WM.hor]
    rw [show 31 - (31 - j) = j by omega]
  · have h1 := WM.hor_lt z hz (31 - j)
    have h2 : 2 ^ (31 - j) ≤ 2 ^ 31 := Nat.pow_le_pow_right (by omega) (by omega)
    omega

set_option maxHeartbeats 1600000 in
theorem value_any (g cap : Nat) (z : Nat → Nat) (hz : ∀ i, z i ≤ 1) (w : World) (hc : ∀ j : Nat, j < 32 → w.cell? ⟨g, j, none⟩ = some (.int .i64 ((z j : Nat) : Int))) :
    Calls Try.prog 37 #[.slice (some ⟨g, 0, none⟩) 32 cap] w fun e w' => e = .returned (.int .u32 ((WM.hor z 32 : Nat) : Int)) ∧ w' = w := by
  go_enter Try.func37, Try.ntmps37
  go_wp2
  go_loop [3, 4] (fun n i => ∃ t : Int, -1 ≤ t ∧ t ≤ 31 ∧ i = .int .i64 t ∧ n = .int .u32 ((WM.hor z (31 - t).toNat : Nat) : Int)) (fun _ i => (intOf i + 1).toNat)
  case atStart => exact ⟨31, by omega, by omega, rfl, rfl⟩
  case round =>
    obtain ⟨t, ht1, ht2, rfl, rfl⟩ := hrel
    by_cases h : 0 ≤ t
    · obtain ⟨j, rfl⟩ := Int.eq_ofNat_of_zero_le h
      obtain ⟨m, d, e1, e2, e3, b1, b2⟩ := hor_step z hz j (by omega)
      have hcj := hc j (by omega)
      rw [e2] at hcj
      rw [show (31 - (j : Int)).toNat = 31 - j by omega, e1]
      have E3 : Hid (WM.hor z (32 - j) = 2 * m + d) := e3
      clear e1 e2 e3 hc hz
      go_wp2
      go_round
      case rel =>
        refine ⟨(j : Int) - 1, by omega, by omega, rfl, ?_⟩
        rw [show (31 - ((j : Int) - 1)).toNat = 32 - j by omega, E3.out]
        go_num
      case measure => simp [intOf]
    · obtain rfl : t = -1 := by omega
      clear hc hz
      go_wp2
      go_ret
      exact ⟨rfl, rfl⟩
end Go.Proofs.Ytkeigicobcjleab.WB
namespace Go.Proofs.Ytkeigicobcjleab.WB
open Go.ChangeShapes Go.WideShapes Go.ChangeAt Go.RowKit

/-- The cells of the result behind k rounds. -/
def cellsAt (z : Nat → Nat) (k : Nat) : List Value := (List.range 32).map fun i => Value.int .i64 ((if i < k then z i else 0 : Nat) : Int)
theorem cellsAt_len (z : Nat → Nat) (k : Nat) : (cellsAt z k).length = 32 := by simp [cellsAt]
theorem cellsAt_get (z : Nat → Nat) (k j : Nat) (h : j < 32) : (cellsAt z k)[j]? = some (Value.int .i64 ((if j < k then z j else 0 : Nat) : Int)) := by simp [cellsAt, h]
theorem cellsAt_zero (z : Nat → Nat) : (madeCells #[Value.int .i64 0] 32).toList = cellsAt z 0 := by
  apply List.ext_getElem?
  intro i
  by_cases h : i < 32
  · rw [cellsAt_get z 0 i h]; simp [madeCells, h, Nat.mod_one]
  · rw [List.getElem?_eq_none (l := cellsAt z 0) (by rw [cellsAt_len]; omega), List.getElem?_eq_none (by simp [madeCells]; omega)]
theorem cellsAt_set (z : Nat → Nat) (k : Nat) (hk : k < 32) : (cellsAt z k).set k (.int .i64 ((z k : Nat) : Int)) = cellsAt z (k + 1) := by
  apply List.ext_getElem?
  intro i
  by_cases h : i < 32
  · rw [cellsAt_get z (k + 1) i h, List.getElem?_set]
    by_cases e : k = i
    · subst e; simp [cellsAt_len, hk]
    · rw [if_neg e, cellsAt_get z k i h]
      by_cases hik : i < k
      · rw [if_pos hik, if_pos (by omega)]
      · rw [if_neg hik, if_neg (by omega)]
  · rw [List.getElem?_eq_none (by rw [List.length_set, cellsAt_len]; omega), List.getElem?_eq_none (by rw [cellsAt_len]; omega)]

theorem below_drawn {B : Nat} {a w : World} (h : Below B a w) (n : Nat) : Below B a (w.drewN n) := ⟨h.os, h.tape, h.output, h.size, h.block⟩

set_option maxHeartbeats 3200000 in
set_option maxRecDepth 1000000 in
theorem both_any (a b p0 p1 p2 : Nat) (h0 : p0 ≤ 1) (h1 : p1 ≤ 1) (h2 : p2 ≤ 1) (ha : a < 4294967296) (hb : b < 4294967296) (w : World) :
    Calls Try.prog 21 #[.int .u32 (a : Int), .int .u32 (b : Int), .int .i64 (p0 : Int), .int .i64 (p1 : Int), .int .i64 (p2 : Int)] w fun e w' => e = .returned (.int .u32 ((WM.comb a b p0 p1 p2 : Nat) : Int)) ∧ Below w.heap.size w w' := by
  obtain ⟨i0, hi, hz0, hz1, hz2⟩ := info_parts info3
  obtain ⟨z, hz⟩ : ∃ z : Nat → Nat, z = fun i => WM.pick p0 p1 p2 (WM.bt a i + WM.bt b i) := ⟨_, rfl⟩
  have hcomb : WM.comb a b p0 p1 p2 = WM.hor z 32 := by rw [hz]; rfl
  rw [hcomb]
  have hzle : ∀ i, z i ≤ 1 := fun i => by rw [hz]; exact WM.pick_le _ _ _ _ h0 h1 h2
  have HZ : Hid (∀ i, z i = WM.pick p0 p1 p2 (WM.bt a i + WM.bt b i)) := fun i => by rw [hz]
  have HL : Hid (∀ i, z i ≤ 1) := hzle
  clear hz hcomb hzle
  go_enter Try.func21, Try.ntmps21
  go_wp2_with fail
  refine (bits_any a _).mono ?_
  rintro e wa ⟨ga, ca, rfl, ga1, ga2, hca, hba⟩
  go_wp2_with fail
  refine (bits_any b _).mono ?_
  rintro e wb ⟨gb, cb, rfl, gb1, gb2, hcb, hbb⟩
  go_wp2_with (at_make; refine wpList_make_full _ rfl _ _ 83 rfl wb.heap.size 3 i0 (.int .i64 0) 1 Try.underlying83 hi hz0 hz1 .i64 .i64 32 32 32 rfl rfl rfl rfl ?c1 ?c2 (Nat.le_refl _) ?_)
  case c1 => rw [hz2]; omega
  case c2 => unfold maxLen; omega
  intro wm hown hgrow
  rw [cellsAt_zero z] at hown
  have hbm : Below wb.heap.size wb wm := (Below.refl _ _).grown hgrow (Nat.le_refl _) (by intro k hk; cases hk)
  have hxm : ∀ j : Nat, j < 64 → wm.cell? ⟨ga, j, none⟩ = some (.int .i64 ((WM.bt a j : Nat) : Int)) := fun j hj => by
    rw [hbm.cell (p := ⟨ga, j, none⟩) (by have := hbb.size; simp; omega), hbb.cell (p := ⟨ga, j, none⟩) (by simpa using ga2)]; exact hca j hj
  have hym : ∀ j : Nat, j < 64 → wm.cell? ⟨gb, j, none⟩ = some (.int .i64 ((WM.bt b j : Nat) : Int)) := fun j hj => by
    rw [hbm.cell (p := ⟨gb, j, none⟩) (by simpa using gb2)]; exact hcb j hj
  have hbw : Below w.heap.size w wm := (hba.trans (hbb.mono hba.size)).trans (hbm.mono (Nat.le_trans hba.size hbb.size))
  have hgA : ga < wb.heap.size := by have := hbb.size; omega
  have hwb : w.heap.size ≤ wb.heap.size := Nat.le_trans hba.size hbb.size
  clear hgrow hca hcb hba hbb h0 h1 h2
  go_wp2
  go_loopw [14] (fun i wr => ∃ k : Nat, k ≤ 32 ∧ i = .int .i64 k ∧ wr.ownsRow wb.heap.size 3 1 (.slice (some ⟨wb.heap.size, 0, none⟩) 32 32) 32 (cellsAt z k) ∧ Below wb.heap.size wm wr)
    (fun i _ => 32 - (intOf i).toNat)
  case atStart => exact ⟨0, Nat.zero_le _, rfl, hown, Below.refl _ _⟩
  case round =>
    obtain ⟨k, hk, rfl, hownk, hnx⟩ := hrel
    clear hown
    by_cases hlt : k < 32
    · have hx := (hnx.cell (p := ⟨ga, k, none⟩) (by simpa using hgA)).trans (hxm k (by omega))
      have hy := (hnx.cell (p := ⟨gb, k, none⟩) (by simpa using gb2)).trans (hym k (by omega))
      have ho := (hownk.cellAt k (by omega)).trans (cellsAt_get z k k hlt)
      have hf := hownk.frozenAt k
      have hzk := HZ.out k
      have st := (hownk.stored k (.int .i64 ((z k : Nat) : Int)))
      rw [cellsAt_set z k hlt] at st
      obtain ⟨st1, st2⟩ := st
      rw [if_neg (by omega)] at ho
      have la := WM.bt_le a k
      have lb := WM.bt_le b k
      obtain ⟨x, ex⟩ : ∃ x, WM.bt a k = x := ⟨_, rfl⟩
      obtain ⟨y, ey⟩ : ∃ y, WM.bt b k = y := ⟨_, rfl⟩
      rw [ex] at hx la hzk
      rw [ey] at hy lb hzk
      clear hownk hxm hym st2 ex ey HZ
      obtain ⟨v, hv⟩ : ∃ v, z k = v := ⟨_, rfl⟩
      rw [hv] at hzk st1
      clear hv
      have c : ((x = 0 ∧ y = 0) ∨ (x = 0 ∧ y = 1)) ∨ ((x = 1 ∧ y = 0) ∨ (x = 1 ∧ y = 1)) := by omega
      rcases c with (⟨rfl, rfl⟩ | ⟨rfl, rfl⟩) | (⟨rfl, rfl⟩ | ⟨rfl, rfl⟩)
      all_goals
        simp [WM.pick] at hzk
        subst hzk
        go_wp2
        go_quiet (fail)
        go_wp2
        go_roundw
        case rel => exact ⟨k + 1, by omega, by go_num, st1, (below_drawn hnx _).setCell (Nat.le_refl _) _⟩
        case measure => simp [intOf]; omega
    · obtain rfl : k = 32 := by omega
      have hv : ∀ j : Nat, j < 32 → wr.cell? ⟨wb.heap.size, j, none⟩ = some (.int .i64 ((z j : Nat) : Int)) := fun j hj => by
        rw [hownk.cellAt j (by omega), cellsAt_get z 32 j hj, if_pos hj]
      clear hownk hxm hym HZ
      go_wp2_with (go_at_call 37; refine (value_any _ _ z HL.out _ hv).mono ?_; rintro e w' ⟨rfl, rfl⟩)
      go_ret
      exact ⟨rfl, hbw.trans (hnx.mono hwb)⟩
end Go.Proofs.Ytkeigicobcjleab.WB
namespace Go.Proofs.Ytkeigicobcjleab.WB
open Go.ChangeShapes Go.WideShapes Go.ChangeAt Go.RowKit

theorem ret2 {k : IntKind} {x y : Int} {b : Bool} (h : x = y) : Ending.returned (.tuple #[.int k x, .bool b]) = .returned (.tuple #[.int k y, .bool b]) := by rw [h]

set_option maxHeartbeats 800000 in
theorem ralu_add (a b : Int) (ha : 0 ≤ a) (ha2 : a < 4294967296) (hb : 0 ≤ b) (hb2 : b < 4294967296) (w : World) :
    Calls Try.prog 6 #[.int .i64 0, .int .u32 a, .int .u32 b] w fun e w' => e = .returned (.tuple #[.int .u32 ((a + b) % 4294967296), .bool true]) ∧ w' = w := by
  go_enter Try.func6, Try.ntmps6
  go_wp2
  go_ret2
  refine ⟨ret2 ?_, rfl⟩
  omega

set_option maxHeartbeats 800000 in
theorem ralu_sub (a b : Int) (ha : 0 ≤ a) (ha2 : a < 4294967296) (hb : 0 ≤ b) (hb2 : b < 4294967296) (w : World) :
    Calls Try.prog 6 #[.int .i64 16, .int .u32 a, .int .u32 b] w fun e w' => e = .returned (.tuple #[.int .u32 ((a - b) % 4294967296), .bool true]) ∧ w' = w := by
  go_enter Try.func6, Try.ntmps6
  go_wp2
  go_ret2
  refine ⟨ret2 ?_, rfl⟩
  omega
set_option maxHeartbeats 800000 in
theorem ralu_mul (a b : Int) (ha : 0 ≤ a) (ha2 : a < 4294967296) (hb : 0 ≤ b) (hb2 : b < 4294967296) (w : World) :
    Calls Try.prog 6 #[.int .i64 32, .int .u32 a, .int .u32 b] w fun e w' => e = .returned (.tuple #[.int .u32 (a * b % 4294967296), .bool true]) ∧ w' = w := by
  have p0 : 0 ≤ a * b := Int.mul_nonneg ha hb
  have p1 := Int.mul_le_mul (show a ≤ 4294967295 by omega) (show b ≤ 4294967295 by omega) hb (by omega)
  go_enter Try.func6, Try.ntmps6
  go_wp2
  go_ret2
  refine ⟨ret2 ?_, rfl⟩
  generalize a * b = c at *
  omega
set_option maxHeartbeats 800000 in
theorem ralu_div0 (a : Int) (w : World) :
    Calls Try.prog 6 #[.int .i64 48, .int .u32 a, .int .u32 0] w fun e w' => e = .returned (.tuple #[.int .u32 0, .bool false]) ∧ w' = w := by
  go_enter Try.func6, Try.ntmps6
  go_wp2
  go_ret2
  exact ⟨rfl, rfl⟩
set_option maxHeartbeats 800000 in
theorem ralu_div (a b : Int) (ha : 0 ≤ a) (ha2 : a < 4294967296) (hb : 0 < b) (hb2 : b < 4294967296) (w : World) :
    Calls Try.prog 6 #[.int .i64 48, .int .u32 a, .int .u32 b] w fun e w' => e = .returned (.tuple #[.int .u32 (a / b % 4294967296), .bool true]) ∧ w' = w := by
  have z1 : (b == 0) = false := by simp; omega
  go_enter Try.func6, Try.ntmps6
  go_wp2
  go_ret2
  refine ⟨ret2 ?_, rfl⟩
  rfl
set_option maxHeartbeats 800000 in
theorem ralu_neg (a b : Int) (ha : 0 ≤ a) (ha2 : a < 4294967296) (w : World) :
    Calls Try.prog 6 #[.int .i64 128, .int .u32 a, .int .u32 b] w fun e w' => e = .returned (.tuple #[.int .u32 (-a % 4294967296), .bool true]) ∧ w' = w := by
  go_enter Try.func6, Try.ntmps6
  go_wp2
  go_ret2
  refine ⟨ret2 ?_, rfl⟩
  omega

theorem both_or (a b : Nat) (ha : a < 4294967296) (hb : b < 4294967296) (w : World) :
    Calls Try.prog 21 #[.int .u32 (a : Int), .int .u32 (b : Int), .int .i64 0, .int .i64 1, .int .i64 1] w fun e w' => e = .returned (.int .u32 (bits .or .u32 (a : Int) (b : Int))) ∧ Below w.heap.size w w' := by
  rw [WM.or32 a b ha hb, ← WM.comb_or a b ha hb]
  exact both_any a b 0 1 1 (by omega) (by omega) (by omega) ha hb w
theorem both_and (a b : Nat) (ha : a < 4294967296) (hb : b < 4294967296) (w : World) :
    Calls Try.prog 21 #[.int .u32 (a : Int), .int .u32 (b : Int), .int .i64 0, .int .i64 0, .int .i64 1] w fun e w' => e = .returned (.int .u32 (bits .and .u32 (a : Int) (b : Int))) ∧ Below w.heap.size w w' := by
  rw [WM.and32 a b ha hb, ← WM.comb_and a b ha]
  exact both_any a b 0 0 1 (by omega) (by omega) (by omega) ha hb w
theorem both_xor (a b : Nat) (ha : a < 4294967296) (hb : b < 4294967296) (w : World) :
    Calls Try.prog 21 #[.int .u32 (a : Int), .int .u32 (b : Int), .int .i64 0, .int .i64 1, .int .i64 0] w fun e w' => e = .returned (.int .u32 (bits .xor .u32 (a : Int) (b : Int))) ∧ Below w.heap.size w w' := by
  rw [WM.xor32 a b ha hb, ← WM.comb_xor a b ha hb]
  exact both_any a b 0 1 0 (by omega) (by omega) (by omega) ha hb w

set_option maxHeartbeats 800000 in
theorem ralu_or (a b : Nat) (ha : a < 4294967296) (hb : b < 4294967296) (w : World) :
    Calls Try.prog 6 #[.int .i64 64, .int .u32 (a : Int), .int .u32 (b : Int)] w fun e w' => e = .returned (.tuple #[.int .u32 (bits .or .u32 (a : Int) (b : Int)), .bool true]) ∧ Below w.heap.size w w' := by
  go_enter Try.func6, Try.ntmps6
  go_wp2_with (go_at_call 21; refine (both_or a b ha hb _).mono ?_; rintro e w' ⟨rfl, hb1⟩)
  go_ret2
  exact ⟨rfl, hb1⟩
set_option maxHeartbeats 800000 in
theorem ralu_and (a b : Nat) (ha : a < 4294967296) (hb : b < 4294967296) (w : World) :
    Calls Try.prog 6 #[.int .i64 80, .int .u32 (a : Int), .int .u32 (b : Int)] w fun e w' => e = .returned (.tuple #[.int .u32 (bits .and .u32 (a : Int) (b : Int)), .bool true]) ∧ Below w.heap.size w w' := by
  go_enter Try.func6, Try.ntmps6
  go_wp2_with (go_at_call 21; refine (both_and a b ha hb _).mono ?_; rintro e w' ⟨rfl, hb1⟩)
  go_ret2
  exact ⟨rfl, hb1⟩
set_option maxHeartbeats 800000 in
theorem ralu_xor (a b : Nat) (ha : a < 4294967296) (hb : b < 4294967296) (w : World) :
    Calls Try.prog 6 #[.int .i64 160, .int .u32 (a : Int), .int .u32 (b : Int)] w fun e w' => e = .returned (.tuple #[.int .u32 (bits .xor .u32 (a : Int) (b : Int)), .bool true]) ∧ Below w.heap.size w w' := by
  go_enter Try.func6, Try.ntmps6
  go_wp2_with (go_at_call 21; refine (both_xor a b ha hb _).mono ?_; rintro e w' ⟨rfl, hb1⟩)
  go_ret2
  exact ⟨rfl, hb1⟩

theorem lsh_step (a k : Nat) : ∃ m : Nat, a * 2 ^ k % 4294967296 = m ∧ m < 4294967296 ∧ a * 2 ^ (k + 1) % 4294967296 = 2 * m % 4294967296 := by
  refine ⟨_, rfl, Nat.mod_lt _ (by omega), ?_⟩
  rw [Nat.pow_succ, ← Nat.mul_assoc]
  generalize a * 2 ^ k = x
  omega
set_option maxHeartbeats 1600000 in
theorem ralu_lsh (a b : Nat) (ha : a < 4294967296) (hb : b < 4294967296) (w : World) :
    Calls Try.prog 6 #[.int .i64 96, .int .u32 (a : Int), .int .u32 (b : Int)] w fun e w' => e = .returned (.tuple #[.int .u32 ((a * 2 ^ (b % 32) % 4294967296 : Nat) : Int), .bool true]) ∧ w' = w := by
  go_enter Try.func6, Try.ntmps6
  go_wp2
  go_loop [9, 10] (fun n i => ∃ k : Nat, k ≤ b % 32 ∧ i = .int .u32 k ∧ n = .int .u64 ((a * 2 ^ k % 4294967296 : Nat) : Int)) (fun _ i => b % 32 - (intOf i).toNat)
  case atStart => exact ⟨0, Nat.zero_le _, rfl, by rw [Nat.pow_zero, Nat.mul_one, Nat.mod_eq_of_lt ha]⟩
  case round =>
    obtain ⟨k, hk, rfl, rfl⟩ := hrel
    by_cases h : k < b % 32
    · obtain ⟨m, e1, e2, e3⟩ := lsh_step a k
      rw [e1]
      have E3 : Hid (a * 2 ^ (k + 1) % 4294967296 = 2 * m % 4294967296) := e3
      clear e1 e3
      go_wp2
      go_round
      case rel => exact ⟨k + 1, by omega, by go_num, by rw [E3.out]; go_num⟩
      case measure => simp [intOf]; omega
    · obtain rfl : k = b % 32 := by omega
      obtain ⟨m, e1, e2, e3⟩ := lsh_step a (b % 32)
      rw [e1]
      have E1 : Hid (a * 2 ^ (b % 32) % 4294967296 = m) := e1
      clear e1 e3
      go_wp2
      go_ret2
      exact ⟨ret2 (by rw [← E1.out]; simp), rfl⟩
theorem rsh_step (a k : Nat) (ha : a < 4294967296) : ∃ m : Nat, a / 2 ^ k = m ∧ m < 4294967296 ∧ a / 2 ^ (k + 1) = m / 2 := by
  refine ⟨_, rfl, Nat.lt_of_le_of_lt (Nat.div_le_self _ _) ha, ?_⟩
  rw [Nat.pow_succ, ← Nat.div_div_eq_div_mul]
set_option maxHeartbeats 1600000 in
theorem ralu_rsh (a b : Nat) (ha : a < 4294967296) (hb : b < 4294967296) (w : World) :
    Calls Try.prog 6 #[.int .i64 112, .int .u32 (a : Int), .int .u32 (b : Int)] w fun e w' => e = .returned (.tuple #[.int .u32 ((a / 2 ^ (b % 32) : Nat) : Int), .bool true]) ∧ w' = w := by
  go_enter Try.func6, Try.ntmps6
  go_wp2
  go_loop [11, 12] (fun n i => ∃ k : Nat, k ≤ b % 32 ∧ i = .int .u32 k ∧ n = .int .u64 ((a / 2 ^ k : Nat) : Int)) (fun _ i => b % 32 - (intOf i).toNat)
  case atStart => exact ⟨0, Nat.zero_le _, rfl, by rw [Nat.pow_zero, Nat.div_one]⟩
  case round =>
    obtain ⟨k, hk, rfl, rfl⟩ := hrel
    obtain ⟨m, e1, e2, e3⟩ := rsh_step a k ha
    by_cases h : k < b % 32
    · rw [e1]
      have E3 : Hid (a / 2 ^ (k + 1) = m / 2) := e3
      clear e1 e3
      go_wp2
      go_round
      case rel => exact ⟨k + 1, by omega, by go_num, by rw [E3.out]; go_num⟩
      case measure => simp [intOf]; omega
    · obtain rfl : k = b % 32 := by omega
      rw [e1]
      have E1 : Hid (a / 2 ^ (b % 32) = m) := e1
      clear e1 e3
      go_wp2
      go_ret2
      exact ⟨ret2 (by rw [← E1.out]; simp), rfl⟩

set_option maxHeartbeats 800000 in
theorem ralu_none (op a b : Int) (h0 : op ≠ 0) (h1 : op ≠ 16) (h2 : op ≠ 32) (h3 : op ≠ 48) (h4 : op ≠ 64) (h5 : op ≠ 80) (h6 : op ≠ 96) (h7 : op ≠ 112) (h8 : op ≠ 128) (h9 : op ≠ 160) (w : World) :
    Calls Try.prog 6 #[.int .i64 op, .int .u32 a, .int .u32 b] w fun e w' => e = .returned (.tuple #[.int .u32 0, .bool false]) ∧ w' = w := by
  have c0 : (op == 0) = false := by simp [h0]
  have c1 : (op == 16) = false := by simp [h1]
  have c2 : (op == 32) = false := by simp [h2]
  have c3 : (op == 48) = false := by simp [h3]
  have c4 : (op == 64) = false := by simp [h4]
  have c5 : (op == 80) = false := by simp [h5]
  have c6 : (op == 96) = false := by simp [h6]
  have c7 : (op == 112) = false := by simp [h7]
  have c8 : (op == 128) = false := by simp [h8]
  have c9 : (op == 160) = false := by simp [h9]
  clear h0 h1 h2 h3 h4 h5 h6 h7 h8 h9
  go_enter Try.func6, Try.ntmps6
  go_wp2
  go_ret2
  exact ⟨rfl, rfl⟩

theorem ralu_any (op a b : Int) (ha : 0 ≤ a) (ha2 : a < 4294967296) (hb : 0 ≤ b) (hb2 : b < 4294967296) (w : World) :
    Calls Try.prog 6 #[.int .i64 op, .int .u32 a, .int .u32 b] w fun e w' => e = .returned (.tuple #[.int .u32 (WM.val op a b), .bool (WM.ok op b)]) ∧ Below w.heap.size w w' := by
  have same : ∀ {e : Ending} {w' : World} {v : Ending}, e = v ∧ w' = w → e = v ∧ Below w.heap.size w w' := fun h => ⟨h.1, by rw [h.2]; exact Below.refl _ _⟩
  by_cases h0 : op = 0
  · subst h0; exact (ralu_add a b ha ha2 hb hb2 w).mono fun _ _ h => same h
  by_cases h1 : op = 16
  · subst h1; exact (ralu_sub a b ha ha2 hb hb2 w).mono fun _ _ h => same h
  by_cases h2 : op = 32
  · subst h2; exact (ralu_mul a b ha ha2 hb hb2 w).mono fun _ _ h => same h
  by_cases h3 : op = 48
  · subst h3
    by_cases hz : b = 0
    · subst hz; exact (ralu_div0 a w).mono fun _ _ h => same h
    · rw [show WM.val 48 a b = a / b % 4294967296 from (show (if b = 0 then (0 : Int) else a / b % 4294967296) = _ by rw [if_neg hz]), show WM.ok 48 b = true from by simp [WM.ok, hz]]
      exact (ralu_div a b ha ha2 (by omega) hb2 w).mono fun _ _ h => same h
  by_cases h4 : op = 64
  · subst h4
    obtain ⟨A, rfl⟩ := Int.eq_ofNat_of_zero_le ha
    obtain ⟨B, rfl⟩ := Int.eq_ofNat_of_zero_le hb
    exact ralu_or A B (by omega) (by omega) w
  by_cases h5 : op = 80
  · subst h5
    obtain ⟨A, rfl⟩ := Int.eq_ofNat_of_zero_le ha
    obtain ⟨B, rfl⟩ := Int.eq_ofNat_of_zero_le hb
    exact ralu_and A B (by omega) (by omega) w
  by_cases h6 : op = 96
  · subst h6
    obtain ⟨A, rfl⟩ := Int.eq_ofNat_of_zero_le ha
    obtain ⟨B, rfl⟩ := Int.eq_ofNat_of_zero_le hb
    rw [show WM.val 96 (A : Int) (B : Int) = ((A * 2 ^ (B % 32) % 4294967296 : Nat) : Int) from (show (A : Int) * 2 ^ ((B : Int) % 32).toNat % 4294967296 = _ by rw [show ((B : Int) % 32).toNat = B % 32 by omega]; simp)]
    exact (ralu_lsh A B (by omega) (by omega) w).mono fun _ _ h => same h
  by_cases h7 : op = 112
  · subst h7
    obtain ⟨A, rfl⟩ := Int.eq_ofNat_of_zero_le ha
    obtain ⟨B, rfl⟩ := Int.eq_ofNat_of_zero_le hb
    rw [show WM.val 112 (A : Int) (B : Int) = ((A / 2 ^ (B % 32) : Nat) : Int) from (show (A : Int) / 2 ^ ((B : Int) % 32).toNat % 4294967296 = _ by rw [WM.rsh_small _ _ ha ha2, show ((B : Int) % 32).toNat = B % 32 by omega]; simp)]
    exact (ralu_rsh A B (by omega) (by omega) w).mono fun _ _ h => same h
  by_cases h8 : op = 128
  · subst h8; exact (ralu_neg a b ha ha2 w).mono fun _ _ h => same h
  by_cases h9 : op = 160
  · subst h9
    obtain ⟨A, rfl⟩ := Int.eq_ofNat_of_zero_le ha
    obtain ⟨B, rfl⟩ := Int.eq_ofNat_of_zero_le hb
    exact ralu_xor A B (by omega) (by omega) w
  rw [show WM.val op a b = 0 by simp [WM.val, h0, h1, h2, h3, h4, h5, h6, h7, h8, h9], show WM.ok op b = false by simp [WM.ok, h0, h1, h2, h3, h4, h5, h6, h7, h8, h9]]
  exact (ralu_none op a b h0 h1 h2 h3 h4 h5 h6 h7 h8 h9 w).mono fun _ _ h => same h

set_option maxHeartbeats 1600000 in
theorem rask_any (op a b : Int) (ha : 0 ≤ a) (ha2 : a < 4294967296) (hb : 0 ≤ b) (hb2 : b < 4294967296) (w : World) :
    Calls Try.prog 23 #[.int .i64 op, .int .u32 a, .int .u32 b] w fun e w' => e = .returned (.bool (WM.ask op a b)) ∧ Below w.heap.size w w' := by
  by_cases h1 : op = 16
  · subst h1; rw [show WM.ask 16 a b = (a == b) from rfl]
    go_enter Try.func23, Try.ntmps23
    go_wp2
    go_ret
    exact ⟨rfl, Below.refl _ _⟩
  by_cases h2 : op = 32
  · subst h2; rw [show WM.ask 32 a b = decide (b < a) from rfl]
    go_enter Try.func23, Try.ntmps23
    go_wp2
    go_ret
    exact ⟨rfl, Below.refl _ _⟩
  by_cases h3 : op = 48
  · subst h3; rw [show WM.ask 48 a b = decide (b ≤ a) from rfl]
    go_enter Try.func23, Try.ntmps23
    go_wp2
    go_ret
    exact ⟨rfl, Below.refl _ _⟩
  by_cases h4 : op = 64
  · subst h4
    obtain ⟨A, rfl⟩ := Int.eq_ofNat_of_zero_le ha
    obtain ⟨B, rfl⟩ := Int.eq_ofNat_of_zero_le hb
    have hn := (WM.bits_range .and (A : Int) (B : Int)).1
    have fin : WM.ask 64 (A : Int) (B : Int) = decide (0 < bits .and .u32 (A : Int) (B : Int)) := by
      show (bits .and .u32 (A : Int) (B : Int) != 0) = _
      rw [Bool.eq_iff_iff]; simp; omega
    rw [fin]
    clear fin hn
    go_enter Try.func23, Try.ntmps23
    go_wp2_with (go_at_call 21; refine (both_and A B (by omega) (by omega) _).mono ?_; rintro e w' ⟨rfl, hb1⟩)
    go_ret
    exact ⟨rfl, hb1⟩
  rw [show WM.ask op a b = false by simp [WM.ask, h1, h2, h3, h4]]
  have c1 : (op == 16) = false := by simp [h1]
  have c2 : (op == 32) = false := by simp [h2]
  have c3 : (op == 48) = false := by simp [h3]
  have c4 : (op == 64) = false := by simp [h4]
  clear h1 h2 h3 h4
  go_enter Try.func23, Try.ntmps23
  go_wp2
  go_ret
  exact ⟨rfl, Below.refl _ _⟩
end Go.Proofs.Ytkeigicobcjleab.WB
