/-
  A record's words and fields, as walks over the Go text.
-/
import Derived.Test.YtcojhfppipdfoabRows
import Derived.Test.YtcojhfppipdfoabRecMath
import Derived.WalkKit
import Derived.ProofKit
import Derived.OpenShut
import Derived.WalkLawsBesides
import Derived.Laws.Shifts
import Derived.Laws.BitsAllLaws
import Derived.Deep.WholeRow
import Derived.Deep.QuietTactic
import Derived.BigQuiet
import Derived.Outline
namespace Go.Proofs.Ytcojhfppipdfoab.RB
open Go.ChangeShapes Go.WideShapes Go.ChangeAt Go.RowKit
set_option linter.unusedVariables false

def enc (l : List Int) : Array Value := (l.map (Value.int .u32)).toArray
theorem enc_size {l : List Int} (h : l.length = 16) : (enc l).size = 16 := by simp [enc, h]
theorem enc_get {l : List Int} (h : l.length = 16) (i : Nat) (hi : i < 16) : (enc l)[i]? = some (.int .u32 (R.at_ l i)) := by
  simp [enc, R.at_, List.getD_eq_getElem?_getD, List.getElem?_eq_getElem (show i < l.length by omega)]
theorem enc_set (l : List Int) (i : Nat) (v : Int) : (enc l).setIfInBounds i (.int .u32 v) = enc (l.set i v) := by
  apply Array.toList_inj.1
  simp [enc, List.map_set]
theorem enc_one (l : List Int) : (enc l).all (·.oneCell') = true := by
  rw [Array.all_eq_true_iff_forall_mem]
  intro v hv
  simp [enc] at hv
  obtain ⟨x, _, rfl⟩ := hv
  rfl
theorem enc_inj {l m : List Int} (h : enc l = enc m) : l = m := by
  have := congrArg Array.toList h
  simp only [enc] at this
  exact List.map_inj_right (f := Value.int .u32) (fun a b e => by injection e) |>.1 this
theorem info24 : (Try.prog.info? 50).map (fun i => (i.zero, i.size, i.bytes)) = some (some (.agg (enc R.zero)), 16, 64) := by kernel_rfl
theorem size24 : (Try.prog.info? 50).map (·.size) = some 16 := by kernel_rfl

theorem parts (a : Int) (h0 : 0 ≤ a) (h1 : a < 18446744073709551616) : bits .or .u64 (a / 4294967296 * 4294967296) (a % 4294967296) = a := by
  obtain ⟨n, rfl⟩ := Int.eq_ofNat_of_zero_le h0
  rw [u64_or _ _ (by omega) (by omega) (by omega) (by omega)]
  have e1 : ((n : Int) / 4294967296 * 4294967296).toNat = (n / 4294967296) <<< 32 := by rw [Nat.shiftLeft_eq]; omega
  have e2 : ((n : Int) % 4294967296).toNat = n % 4294967296 := by omega
  rw [e1, e2, ← Nat.shiftLeft_add_eq_or_of_lt (by omega : n % 4294967296 < 2 ^ 32), Nat.shiftLeft_eq]
  omega
theorem join_or (a b : Int) (ha : 0 ≤ a ∧ a < 4294967296) (hb : 0 ≤ b ∧ b < 4294967296) : bits .or .u64 (b * 4294967296) a = a + 4294967296 * b := by
  have := parts (a + 4294967296 * b) (by omega) (by omega)
  rw [show (a + 4294967296 * b) / 4294967296 = b by omega, show (a + 4294967296 * b) % 4294967296 = a by omega] at this
  exact this
end Go.Proofs.Ytcojhfppipdfoab.RB
