/-
  The reference's bytes of an instruction, and the parts of its code, as walks over the Go text.
-/
import Derived.Test.YtcojhfppipdfoabInsWrite
namespace Go.Proofs.Ytcojhfppipdfoab.B
open Go.ChangeShapes Go.WideShapes Go.ChangeAt Go.RowKit
set_option linter.unusedVariables false

theorem wrap_div (c d : Int) (h0 : 0 ≤ c) (h1 : c < 65536) (hd : 0 < d) : IntKind.u16.wrap (c.tdiv d) = c / d := by
  rw [Int.tdiv_eq_ediv_of_nonneg h0]
  have a := Int.ediv_nonneg h0 (Int.le_of_lt hd)
  have b := Int.ediv_le_self d h0
  rw [IntKind.wrap_u16]
  generalize c / d = x at *
  omega

theorem and255 : ∀ x : Nat, x < 256 → x &&& 7 = x % 8 ∧ x &&& 240 = x / 16 % 16 * 16 ∧ x &&& 8 = x / 8 % 2 * 8 := by decide +kernel
theorem and_low (n m : Nat) (hm : 255 &&& m = m) : n &&& m = (n % 256) &&& m := by
  rw [show n % 256 = n &&& 255 from (Nat.and_two_pow_sub_one_eq_mod n 8).symm, Nat.and_assoc, hm]
theorem and7 (c : Int) (h0 : 0 ≤ c) (h1 : c < 65536) : bits .and .u16 c 7 = c % 8 := by
  rw [u16_and c 7 h0 h1 (by omega) (by omega)]
  have := and_low c.toNat 7 rfl
  rw [show (7 : Int).toNat = 7 from rfl, this, (and255 (c.toNat % 256) (by omega)).1]
  omega
theorem and240 (c : Int) (h0 : 0 ≤ c) (h1 : c < 65536) : bits .and .u16 c 240 = c / 16 % 16 * 16 := by
  rw [u16_and c 240 h0 h1 (by omega) (by omega)]
  have := and_low c.toNat 240 rfl
  rw [show (240 : Int).toNat = 240 from rfl, this, (and255 (c.toNat % 256) (by omega)).2.1]
  omega
theorem and8 (c : Int) (h0 : 0 ≤ c) (h1 : c < 65536) : bits .and .u16 c 8 = c / 8 % 2 * 8 := by
  rw [u16_and c 8 h0 h1 (by omega) (by omega)]
  have := and_low c.toNat 8 rfl
  rw [show (8 : Int).toNat = 8 from rfl, this, (and255 (c.toNat % 256) (by omega)).2.2]
  omega
theorem ret_bool {a b : Bool} (h : a = b) : Ending.returned (.bool a) = .returned (.bool b) := by rw [h]
theorem fromx_eq (c : Int) : (c / 8 % 2 * 8 != 0) = decide (c / 8 % 2 = 1) := by
  rw [Bool.eq_iff_iff]; simp only [bne_iff_ne, ne_eq, decide_eq_true_eq]; omega
theorem and_byte (c : Int) (h0 : 0 ≤ c) (h1 : c < 65536) : bits .and .u16 c 255 = c % 256 := by
  rw [u16_and c 255 h0 h1 (by omega) (by omega), show (255 : Int).toNat = 2 ^ 8 - 1 from rfl, Nat.and_two_pow_sub_one_eq_mod]
  omega

set_option maxHeartbeats 1600000 in
theorem op_any (c t f k : Int) (ok : M.okI (c, t, f, k)) (w : World) :
    Calls Try.prog 27 #[.agg #[.int .u16 c, .int .u8 t, .int .u8 f, .int .u32 k]] w fun e w' => e = .returned (.int .i64 (c / 16 % 16 * 16)) ∧ Below w.heap.size w w' := by
  have hc : 0 ≤ c := ok.1.1
  have hc' : c < 65536 := ok.1.2
  have e1 := and240 c hc hc'
  go_enter Try.func27, Try.ntmps27
  go_wp2
  go_ret
  exact ⟨rfl, (Below.refl _ _).alloc (Nat.le_refl _) _⟩
set_option maxHeartbeats 1600000 in
theorem fromx_any (c t f k : Int) (ok : M.okI (c, t, f, k)) (w : World) :
    Calls Try.prog 26 #[.agg #[.int .u16 c, .int .u8 t, .int .u8 f, .int .u32 k]] w fun e w' => e = .returned (.bool (decide (c / 8 % 2 = 1))) ∧ Below w.heap.size w w' := by
  have hc : 0 ≤ c := ok.1.1
  have hc' : c < 65536 := ok.1.2
  have e1 := and8 c hc hc'
  go_enter Try.func26, Try.ntmps26
  go_wp2
  go_ret
  exact ⟨ret_bool (fromx_eq c), (Below.refl _ _).alloc (Nat.le_refl _) _⟩
end Go.Proofs.Ytcojhfppipdfoab.B
