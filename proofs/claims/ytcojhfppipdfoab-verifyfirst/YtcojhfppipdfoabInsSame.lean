/-
  Whether two rows of instructions are the same, as walks over the Go text: the reference's and the library's.
-/
import Derived.Test.YtcojhfppipdfoabInsRef
import Derived.Laws.StructEq
namespace Go.Proofs.Ytcojhfppipdfoab.B
open Go.ChangeShapes Go.WideShapes Go.ChangeAt Go.RowKit
set_option linter.unusedVariables false

/-- The instruction i lies at place j of the row that begins at b, o. -/
def LiesAt (w : World) (b o j : Nat) (i : M.I) : Prop :=
  w.cell? ⟨b, o + j * 4, none⟩ = some (.int .u16 i.1) ∧ w.cell? ⟨b, o + j * 4 + 1, none⟩ = some (.int .u8 i.2.1) ∧ w.cell? ⟨b, o + j * 4 + 2, none⟩ = some (.int .u8 i.2.2.1) ∧ w.cell? ⟨b, o + j * 4 + 3, none⟩ = some (.int .u32 i.2.2.2)
/-- The instructions of l lie at a, one behind the other. -/
def Lies (w : World) (a : Option Addr) (l : List M.I) : Prop :=
  l = [] ∨ ∃ b o, a = some ⟨b, o, none⟩ ∧ b < w.heap.size ∧ ∀ j (h : j < l.length), LiesAt w b o j l[j]

theorem Lies.mono {w w' : World} {a : Option Addr} {l : List M.I} {B : Nat} (h : Lies w a l) (hb : Below B w w') (hB : ∀ b o, a = some ⟨b, o, none⟩ → b < B) : Lies w' a l := by
  rcases h with h | ⟨b, o, e, hlt, h⟩
  · exact .inl h
  · refine .inr ⟨b, o, e, Nat.lt_of_lt_of_le hlt hb.size, fun j hj => ?_⟩
    have hbB := hB b o e
    obtain ⟨h0, h1, h2, h3⟩ := h j hj
    exact ⟨(hb.cell hbB).trans h0, (hb.cell hbB).trans h1, (hb.cell hbB).trans h2, (hb.cell hbB).trans h3⟩
theorem Lies.lt {w : World} {a : Option Addr} {l : List M.I} (h : Lies w a l) : l = [] ∨ ∃ b o, a = some ⟨b, o, none⟩ ∧ b < w.heap.size := by
  rcases h with h | ⟨b, o, e, hlt, _⟩
  · exact .inl h
  · exact .inr ⟨b, o, e, hlt⟩
theorem Lies.below {w w' : World} {a : Option Addr} {l : List M.I} (h : Lies w a l) (hb : Below w.heap.size w w') : Lies w' a l := by
  rcases h with h | ⟨b, o, e, hlt, h⟩
  · exact .inl h
  · exact Lies.mono (.inr ⟨b, o, e, hlt, h⟩) hb (fun b' o' e' => by rw [e] at e'; cases e'; exact hlt)
theorem Lies.drewN {w : World} {a : Option Addr} {l : List M.I} (h : Lies w a l) (n : Nat) : Lies (w.drewN n) a l := h

theorem dd (w : World) (a b : Nat) : (w.drewN a).drewN b = w.drewN (a + b) := by simp [World.drewN, Nat.add_assoc]
theorem take_next {l m : List M.I} {k : Nat} (h : k < l.length) (h' : k < m.length) (e : l.take k = m.take k) (ek : l[k] = m[k]) : l.take (k + 1) = m.take (k + 1) := by
  rw [List.take_succ_eq_append_getElem h, List.take_succ_eq_append_getElem h', e, ek]

theorem guard39 (op : BinOp) (x y : Operand) (xs ys : Array Value) (W : World) : (eqGuard op 32 x y (.agg xs) (.agg ys)).run Try.prog W = .ok () W :=
  run_eqGuard_agg W op 32 x y xs ys (by kernel_rfl)
theorem held39 : Try.prog.stoodInHeld 32 = false := by kernel_rfl
theorem fields39 : Try.prog.underlying 32 = some (.struct (Try.prog.fieldsOf 32)) := by kernel_rfl
theorem eq39 (c1 t1 f1 k1 c2 t2 f2 k2 : Int) (d : Nat) (W : World) :
    (Op.equalIn (d + 2) 32 (.agg #[.int .u16 c1, .int .u8 t1, .int .u8 f1, .int .u32 k1]) (.agg #[.int .u16 c2, .int .u8 t2, .int .u8 f2, .int .u32 k2])).run Try.prog W = .ok (decide ((c1, t1, f1, k1) = (c2, t2, f2, k2))) W := by
  rw [run_equalIn_struct W (d + 1) 32 _ _ fields39 held39]
  have hu := Try.underlying32
  rw [fields39] at hu
  simp only [Option.some.injEq, TypeDesc.struct.injEq] at hu
  rw [hu]
  have c36 : Try.prog.cellsOf 29 = 1 := by kernel_rfl
  have c5 : Try.prog.cellsOf 5 = 1 := by kernel_rfl
  have c37 : Try.prog.cellsOf 30 = 1 := by kernel_rfl
  simp [Op.eqFields, part, go_sem, Try.underlying29, Try.underlying5, Try.underlying30]
  repeat' split
  all_goals simp_all
theorem eql39 (c1 t1 f1 k1 c2 t2 f2 k2 : Int) (W : World) :
    (binOp .eql 32 (.agg #[.int .u16 c1, .int .u8 t1, .int .u8 f1, .int .u32 k1]) (.agg #[.int .u16 c2, .int .u8 t2, .int .u8 f2, .int .u32 k2])).run Try.prog W = .ok (.bool (decide ((c1, t1, f1, k1) = (c2, t2, f2, k2)))) W := by
  rw [run_eql_struct W 32, eq39 c1 t1 f1 k1 c2 t2 f2 k2 9998 W]; rfl
theorem neq39 (c1 t1 f1 k1 c2 t2 f2 k2 : Int) (W : World) :
    (binOp .neq 32 (.agg #[.int .u16 c1, .int .u8 t1, .int .u8 f1, .int .u32 k1]) (.agg #[.int .u16 c2, .int .u8 t2, .int .u8 f2, .int .u32 k2])).run Try.prog W = .ok (.bool (!decide ((c1, t1, f1, k1) = (c2, t2, f2, k2)))) W := by
  rw [run_neq_struct W 32, eq39 c1 t1 f1 k1 c2 t2 f2 k2 9998 W]; rfl

end Go.Proofs.Ytcojhfppipdfoab.B
