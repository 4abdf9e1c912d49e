/-
  Two atoms, held against each other.
-/
import Derived.Test.YtkeigicobcjleabT3
namespace Go.Proofs.Ytkeigicobcjleab.TB
open Go.ChangeShapes Go.WideShapes Go.ChangeAt Go.RowKit
open Go.Sort hiding Below
set_option linter.unusedVariables false
set_option maxRecDepth 100000

theorem guardA (op : BinOp) (x y : Operand) (xs ys : Array Value) (W : World) : (eqGuard op 31 x y (.agg xs) (.agg ys)).run Try.prog W = .ok () W :=
  run_eqGuard_agg W op 31 x y xs ys (by kernel_rfl)
theorem heldA : Try.prog.stoodInHeld 31 = false := by kernel_rfl
theorem fieldsA : Try.prog.underlying 31 = some (.struct (Try.prog.fieldsOf 31)) := by kernel_rfl
theorem eqA (o1 a1 b1 : Int) (k1 : Bool) (o2 a2 b2 : Int) (k2 : Bool) (d : Nat) (W : World) :
    (Op.equalIn (d + 2) 31 (.agg #[.int .i64 o1, .int .i64 a1, .int .i64 b1, .bool k1]) (.agg #[.int .i64 o2, .int .i64 a2, .int .i64 b2, .bool k2])).run Try.prog W = .ok (decide ((o1, a1, b1, k1) = (o2, a2, b2, k2))) W := by
  rw [run_equalIn_struct W (d + 1) 31 _ _ fieldsA heldA]
  have hu := Try.underlying31
  rw [fieldsA] at hu
  simp only [Option.some.injEq, TypeDesc.struct.injEq] at hu
  rw [hu]
  have c3 : Try.prog.cellsOf 3 = 1 := by kernel_rfl
  have c37 : Try.prog.cellsOf 4 = 1 := by kernel_rfl
  simp [Op.eqFields, part, go_sem, Try.underlying3, Try.underlying4]
  repeat' split
  all_goals simp_all
theorem eqlA (o1 a1 b1 : Int) (k1 : Bool) (o2 a2 b2 : Int) (k2 : Bool) (W : World) :
    (binOp .eql 31 (.agg #[.int .i64 o1, .int .i64 a1, .int .i64 b1, .bool k1]) (.agg #[.int .i64 o2, .int .i64 a2, .int .i64 b2, .bool k2])).run Try.prog W = .ok (.bool (decide ((o1, a1, b1, k1) = (o2, a2, b2, k2)))) W := by
  rw [run_eql_struct W 31, eqA o1 a1 b1 k1 o2 a2 b2 k2 9998 W]; rfl
theorem neqA (o1 a1 b1 : Int) (k1 : Bool) (o2 a2 b2 : Int) (k2 : Bool) (W : World) :
    (binOp .neq 31 (.agg #[.int .i64 o1, .int .i64 a1, .int .i64 b1, .bool k1]) (.agg #[.int .i64 o2, .int .i64 a2, .int .i64 b2, .bool k2])).run Try.prog W = .ok (.bool (!decide ((o1, a1, b1, k1) = (o2, a2, b2, k2)))) W := by
  rw [run_neq_struct W 31, eqA o1 a1 b1 k1 o2 a2 b2 k2 9998 W]; rfl
end Go.Proofs.Ytkeigicobcjleab.TB
