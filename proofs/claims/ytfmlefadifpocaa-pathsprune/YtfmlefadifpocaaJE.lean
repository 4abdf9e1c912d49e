/-
  The program's small parts of a step, as walks over the Go text.
-/
import Derived.Test.YtfmlefadifpocaaH6
import Derived.Lib.QuietBelow
import Derived.StillTailTactics
namespace Go.Proofs.Ytfmlefadifpocaa.B
open Go.ChangeShapes Go.WideShapes Go.ChangeAt Go.RowKit
open Go.Sort hiding Below
set_option linter.unusedVariables false

end Go.Proofs.Ytfmlefadifpocaa.B
namespace Go.Proofs.Ytfmlefadifpocaa.B
open Go.ChangeShapes Go.WideShapes Go.ChangeAt Go.RowKit
open Go.Sort hiding Below
set_option linter.unusedVariables false

theorem At.load {W : World} {b : Nat} {c t f k : Int} (h : At W b c t f k) : (RB.lcf b 4).run Try.prog W = .ok #[.int .u16 c, .int .u8 t, .int .u8 f, .int .u32 k] W := by
  unfold RB.lcf
  obtain ⟨a0, a1, a2, a3, _⟩ := h.cells
  have := run_loadCells_list (P := Try.prog) W ⟨b, 0, none⟩ [.int .u16 c, .int .u8 t, .int .u8 f, .int .u32 k] (fun j v hv => by
    have hadd : (⟨b, 0, none⟩ : Addr).add j = ⟨b, j, none⟩ := by unfold Addr.add; split <;> simp_all
    rw [hadd]
    have hj : j < 4 := (List.getElem?_eq_some_iff.1 hv).1
    have : j = 0 ∨ j = 1 ∨ j = 2 ∨ j = 3 := by omega
    rcases this with rfl | rfl | rfl | rfl
    · rw [a0]; simpa using hv
    · rw [a1]; simpa using hv
    · rw [a2]; simpa using hv
    · rw [a3]; simpa using hv)
  simpa [loadCells] using this
theorem quiet_loadI {W : World} {b : Nat} {c t f k : Int} (h : At W b c t f k) (d : Nat) (os : Array Obj) : (RB.lcf b 4).run Try.prog (grow (redrawn W d) os) = .ok #[.int .u16 c, .int .u8 t, .int .u8 f, .int .u32 k] (grow (redrawn W d) os) :=
  (h.below (below_regrown W d os)).load
/-- the calls of a region, in every world that it may meet -/
theorem quiet_op (c t f k : Int) (ok : M.okI (c, t, f, k)) (W : World) (d : Nat) (os : Array Obj) :
    Calls Try.prog 64 #[.agg #[.int .u16 c, .int .u8 t, .int .u8 f, .int .u32 k]] (grow (redrawn W d) os) fun e w' => e = .returned (.int .i64 (c / 16 % 16 * 16)) ∧ ∃ p : Regrown, w' = grow (redrawn W p.d) p.os :=
  (op_any c t f k ok _).regrown_of
theorem quiet_load {W : World} {b : Nat} {t : TypeId} {s : M.S} (h : St W b t s) (d : Nat) (os : Array Obj) : (RB.lcf b 21).run Try.prog (grow (redrawn W d) os) = .ok (encS s) (grow (redrawn W d) os) :=
  (h.below (below_regrown W d os)).load
theorem oth_bd {i : M.I} (ok : M.okI i) {s : M.S} (hs : M.okS s) : 0 ≤ M.oth i s ∧ M.oth i s < 4294967296 := by
  unfold M.oth
  split
  · exact hs.x
  · exact ok.2.2.2

end Go.Proofs.Ytfmlefadifpocaa.B
namespace Go.Proofs.Ytfmlefadifpocaa.B
open Go.ChangeShapes Go.WideShapes Go.ChangeAt Go.RowKit
open Go.Sort hiding Below
set_option linter.unusedVariables false

end Go.Proofs.Ytfmlefadifpocaa.B
