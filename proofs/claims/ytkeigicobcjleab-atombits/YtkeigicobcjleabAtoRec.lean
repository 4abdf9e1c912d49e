/-
  An atom's box, loaded whole, beside a record's.
-/
import Derived.Test.YtkeigicobcjleabAtoRefA
import Derived.Test.YtkeigicobcjleabHX
namespace Go.Proofs.Ytkeigicobcjleab.TB
open Go.ChangeShapes Go.WideShapes Go.ChangeAt Go.RowKit
open Go.Sort hiding Below
set_option linter.unusedVariables false
set_option maxRecDepth 100000
theorem AAt.load {W : World} {b : Nat} {o p q : Int} {n : Bool} (h : AAt W b o p q n) : (RB.lcf b 4).run Try.prog W = .ok #[.int .i64 o, .int .i64 p, .int .i64 q, .bool n] W := by
  unfold RB.lcf
  obtain ⟨a0, a1, a2, a3, _⟩ := h.cells
  have := run_loadCells_list (P := Try.prog) W ⟨b, 0, none⟩ [.int .i64 o, .int .i64 p, .int .i64 q, .bool n] (fun j v hv => by
    have hadd : (⟨b, 0, none⟩ : Addr).add j = ⟨b, j, none⟩ := by unfold Addr.add; split <;> simp_all
    rw [hadd]
    have hj : j < 4 := (List.getElem?_eq_some_iff.1 hv).1
    have : j = 0 ∨ j = 1 ∨ j = 2 ∨ j = 3 := by omega
    rcases this with rfl | rfl | rfl | rfl
    · rw [a0]; simpa using hv
    · rw [a1]; simpa using hv
    · rw [a2]; simpa using hv
    · rw [a3]; simpa using hv)
  simpa [loadCells] using this
theorem lies_grown {W W' : World} {s : Option Addr} {L : List TM.N} {row : Option Nat} (h : LiesN W s L) (hg : W.grownBy W' row) (hne : ∀ k, blk s = some k → row = some k → False) : LiesN W' s L := by
  rcases h with h | ⟨b, o, rfl, h1, h2⟩
  · exact .inl h
  · have e := hg.block b h1 (fun e => hne b rfl e.symm)
    refine .inr ⟨b, o, rfl, Nat.lt_of_lt_of_le h1 hg.size, fun j hj => ?_⟩
    obtain ⟨q0, q1, q2, q3⟩ := h2 j hj
    exact ⟨(World.cell?_of_block e).trans q0, (World.cell?_of_block e).trans q1, (World.cell?_of_block e).trans q2, (World.cell?_of_block e).trans q3⟩
end Go.Proofs.Ytkeigicobcjleab.TB
