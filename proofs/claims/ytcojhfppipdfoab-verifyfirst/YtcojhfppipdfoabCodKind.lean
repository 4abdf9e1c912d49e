/-
  Kinds of codes, as walks over the Go text.
-/
import Derived.Test.YtcojhfppipdfoabCodMath
import Derived.WalkKit
import Derived.ProofKit
import Derived.OpenShut
import Derived.WalkLawsBesides
import Derived.Outline
namespace Go.Proofs.Ytcojhfppipdfoab.B
open Go.ChangeShapes Go.WideShapes Go.ChangeAt Go.RowKit
set_option linter.unusedVariables false

set_option maxHeartbeats 4000000 in
set_option maxRecDepth 100000 in
theorem kind_any (c : Int) (w : World) : Calls Try.prog 16 #[.int .u16 c] w fun e w' => e = .returned (.int .i64 (M.kind c)) ∧ w' = w := by
  go_enter Try.func16, Try.ntmps16
  go_wp2
  all_goals go_ret
  all_goals first
    | (rename_i h; obtain rfl := eq_of_beq h; exact ⟨rfl, rfl⟩)
    | (refine ⟨congrArg (fun x => Ending.returned (Value.int .i64 x)) (?_ : (0 : Int) = M.kind c), rfl⟩; simp only [M.kind, M.kinds, List.find?, *]; rfl)

theorem bit8 : ∀ c ∈ M.codes, (bits BinOp.and IntKind.u16 c 8 != 0) = (c / 8 % 2 == 1) := by decide
theorem bit8k {c : Int} (h : M.kind c ≠ 0) : (bits BinOp.and IntKind.u16 c 8 != 0) = (c / 8 % 2 == 1) := by
  by_cases hc : c ∈ M.codes
  · exact bit8 c hc
  · exact absurd (M.kind_none hc) h
theorem tup2 {a b a' b' : Bool} (h : a = a') (h' : b = b') : Ending.returned (.tuple #[.bool a, .bool b]) = .returned (.tuple #[.bool a', .bool b']) := by rw [h, h']

set_option maxHeartbeats 4000000 in
set_option maxRecDepth 100000 in
theorem ends_any (c : Int) (w : World) : Calls Try.prog 14 #[.int .u16 c] w fun e w' => e = .returned (.bool (M.ends c)) ∧ w' = w := by
  go_enter Try.func14, Try.ntmps14
  go_wp2_with (go_at_call 16; refine (kind_any _ _).mono ?_; rintro e w' ⟨rfl, rfl⟩)
  all_goals go_ret
  all_goals exact ⟨by simp [M.ends, *], rfl⟩
end Go.Proofs.Ytcojhfppipdfoab.B
