/-
  Plain facts, no Go in sight: the bits of a number as a list, and a number made of bits again, by Horner's way.
-/
import Derived.Test.YtlbjfggcflfmaaaMath
namespace Go.Proofs.Ytlbjfggcflfmaaa.M

/-- Bit i of n, as a number. -/
def bt (n i : Nat) : Nat := n / 2 ^ i % 2
theorem bt_le (n i : Nat) : bt n i ≤ 1 := by unfold bt; omega
theorem bt_walk (n k : Nat) : RowKit.wrap64 (((n : Int) / 2 ^ k).tmod 2) = ((bt n k : Nat) : Int) := by
  have e : (n : Int) / 2 ^ k = ((n / 2 ^ k : Nat) : Int) := by simp
  rw [e]
  unfold RowKit.wrap64 bt
  generalize n / 2 ^ k = m
  rw [Int.tmod_eq_emod_of_nonneg (by omega)]
  omega
/-- The lower k bits, the least first. -/
def bl (n k : Nat) : List Int := (List.range k).map fun i => ((bt n i : Nat) : Int)
theorem bl_succ (n k : Nat) : bl n (k + 1) = bl n k ++ [((bt n k : Nat) : Int)] := by simp [bl, List.range_succ]
theorem bl_len (n k : Nat) : (bl n k).length = k := by simp [bl]
theorem bl_get (n k j : Nat) (h : j < k) : ((bl n k).map (Value.int .i64))[j]? = some (.int .i64 ((bt n j : Nat) : Int)) := by simp [bl, h]
/-- A number made of the digits z 31, z 30 .., the first k of them. -/
def hor (z : Nat → Nat) : Nat → Nat
  | 0 => 0
  | k + 1 => 2 * hor z k + z (31 - k)
theorem hor_lt (z : Nat → Nat) (hz : ∀ i, z i ≤ 1) (k : Nat) : hor z k < 2 ^ k := by
  induction k with
  | zero => simp [hor]
  | succ k ih => have := hz (31 - k); rw [Nat.pow_succ]; simp only [hor]; omega
theorem hor_bt (n k : Nat) (hk : k ≤ 32) (hn : n < 4294967296) : hor (bt n) k = n / 2 ^ (32 - k) := by
  induction k with
  | zero => simp only [hor]; rw [show 32 - 0 = 32 by omega, Nat.div_eq_of_lt (by simpa using hn)]
  | succ k ih =>
    simp only [hor]
    rw [ih (by omega)]
    unfold bt
    have e : 32 - k = 31 - k + 1 := by omega
    rw [e, Nat.pow_succ, ← Nat.div_div_eq_div_mul, show 32 - (k + 1) = 31 - k by omega]
    generalize n / 2 ^ (31 - k) = m
    omega
theorem hor_full (n : Nat) (hn : n < 4294967296) : hor (bt n) 32 = n := by
  rw [hor_bt n 32 (by omega) hn]; simp
theorem hor_congr (z y : Nat → Nat) (h : ∀ i, i < 32 → z i = y i) (k : Nat) (hk : k ≤ 32) : hor z k = hor y k := by
  induction k with
  | zero => rfl
  | succ k ih => simp only [hor]; rw [ih (by omega), h (31 - k) (by omega)]
theorem bt_testBit (n i : Nat) : bt n i = if n.testBit i then 1 else 0 := by
  unfold bt
  rw [Nat.testBit_eq_decide_div_mod_eq]
  by_cases h : n / 2 ^ i % 2 = 1
  · simp [h]
  · simp [h]; omega
/-- What is picked by the sum of two bits. -/
def pick (p0 p1 p2 s : Nat) : Nat := if s = 0 then p0 else if s = 1 then p1 else p2
theorem pick_le (p0 p1 p2 s : Nat) (h0 : p0 ≤ 1) (h1 : p1 ≤ 1) (h2 : p2 ≤ 1) : pick p0 p1 p2 s ≤ 1 := by
  unfold pick
  repeat' split
  all_goals assumption
theorem pick_and (a b i : Nat) : pick 0 0 1 (bt a i + bt b i) = bt (a &&& b) i := by
  rw [bt_testBit, bt_testBit, bt_testBit, Nat.testBit_and]; cases a.testBit i <;> cases b.testBit i <;> rfl
theorem pick_or (a b i : Nat) : pick 0 1 1 (bt a i + bt b i) = bt (a ||| b) i := by
  rw [bt_testBit, bt_testBit, bt_testBit, Nat.testBit_or]; cases a.testBit i <;> cases b.testBit i <;> rfl
theorem pick_xor (a b i : Nat) : pick 0 1 0 (bt a i + bt b i) = bt (a ^^^ b) i := by
  rw [bt_testBit, bt_testBit, bt_testBit, Nat.testBit_xor]; cases a.testBit i <;> cases b.testBit i <;> rfl
/-- Bit by bit: the number. -/
def comb (a b p0 p1 p2 : Nat) : Nat := hor (fun i => pick p0 p1 p2 (bt a i + bt b i)) 32
theorem comb_and (a b : Nat) (ha : a < 4294967296) : comb a b 0 0 1 = a &&& b := by
  unfold comb
  rw [hor_congr _ (bt (a &&& b)) (fun i _ => pick_and a b i) 32 (by omega), hor_full _ (and_lt32 a b ha)]
theorem comb_or (a b : Nat) (ha : a < 4294967296) (hb : b < 4294967296) : comb a b 0 1 1 = a ||| b := by
  unfold comb
  rw [hor_congr _ (bt (a ||| b)) (fun i _ => pick_or a b i) 32 (by omega), hor_full _ (or_lt32 a b ha hb)]
theorem comb_xor (a b : Nat) (ha : a < 4294967296) (hb : b < 4294967296) : comb a b 0 1 0 = a ^^^ b := by
  unfold comb
  rw [hor_congr _ (bt (a ^^^ b)) (fun i _ => pick_xor a b i) 32 (by omega), hor_full _ (xor_lt32 a b ha hb)]
end Go.Proofs.Ytlbjfggcflfmaaa.M
