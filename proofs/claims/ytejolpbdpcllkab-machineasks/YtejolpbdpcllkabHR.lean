/-
  The reference's Check, as a walk over the Go text.
-/
import Derived.Test.YtejolpbdpcllkabHQ
namespace Go.Proofs.Ytejolpbdpcllkab.B
open Go.ChangeShapes Go.WideShapes Go.ChangeAt Go.RowKit
open Go.Sort hiding Below
set_option linter.unusedVariables false

theorem bdrew {B : Nat} {a w : World} (h : Below B a w) (n : Nat) : Below B a (w.drewN n) := ⟨h.os, h.tape, h.output, h.size, h.block⟩
theorem shr_bit (y d : Nat) (hy : y < 65536) : (bits .and .u16 ((y : Int) / 2 ^ d) 1 == 0) = !y.testBit d := by
  have e : (y : Int) / 2 ^ d = ((y / 2 ^ d : Nat) : Int) := by simp
  have hl : y / 2 ^ d < 65536 := Nat.lt_of_le_of_lt (Nat.div_le_self _ _) hy
  rw [e]
  generalize hq : y / 2 ^ d = q at *
  rw [u16_and _ _ (by omega) (by omega) (by omega) (by omega), Nat.testBit_eq_decide_div_mod_eq, hq]
  rw [show (1 : Int).toNat = 1 from rfl, Nat.and_one_is_mod]
  simp only [Int.toNat_natCast]
  rcases Nat.mod_two_eq_zero_or_one q with h | h <;> simp [h]
end Go.Proofs.Ytejolpbdpcllkab.B
