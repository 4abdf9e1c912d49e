/-
  Small tools: a fact kept out of the walks' sight; a chain of worlds under one name.
-/
import Derived.Test.YtcojhfppipdfoabCodKind
import Derived.Test.YtcojhfppipdfoabInsArgs
import Derived.Test.YtcojhfppipdfoabRecField
import Derived.Maps.Own
import Derived.Deep.RegionHeld
import Derived.RangeFuncRecord
import Derived.Sort.EncStr
import Derived.Sort.KeysCollected
namespace Go.Proofs.Ytcojhfppipdfoab.B
open Go.ChangeShapes Go.WideShapes Go.ChangeAt Go.RowKit
set_option linter.unusedVariables false
theorem hid {p : Prop} (h : p) : Hid p := h
theorem stp {w a b : World} (h : Hid (Below w.heap.size w a)) (h' : Below a.heap.size a b) : Hid (Below w.heap.size w b) := h.out.trans (h'.mono h.out.size)
theorem al (w : World) (o : Obj) : Below w.heap.size w (w.alloc o) := (Below.refl _ _).alloc (Nat.le_refl _) _
theorem al_stp {w a b : World} {o : Obj} (h : Hid (Below w.heap.size w a)) (h' : Below (a.alloc o).heap.size (a.alloc o) b) : Hid (Below w.heap.size w b) := stp (stp h (al a o)) h'
/-- an instruction lies in a block of its own -/
def At (W : World) (b : Nat) (c t f k : Int) : Prop := W.heap[b]? = some (.cells #[.int .u16 c, .int .u8 t, .int .u8 f, .int .u32 k] 32 (0, 0))
theorem At.lt {W : World} {b : Nat} {c t f k : Int} (h : At W b c t f k) : b < W.heap.size := by
  rcases Nat.lt_or_ge b W.heap.size with h' | h'
  · exact h'
  · unfold At at h; rw [Array.getElem?_eq_none h'] at h; cases h
theorem At.below {W W' : World} {b : Nat} {c t f k : Int} (h : At W b c t f k) (hb : Below W.heap.size W W') : At W' b c t f k := by
  have := hb.block b h.lt
  unfold At at *
  rw [this]; exact h
theorem At.cells {W : World} {b : Nat} {c t f k : Int} (h : At W b c t f k) : W.cell? ⟨b, 0, none⟩ = some (.int .u16 c) ∧ W.cell? ⟨b, 1, none⟩ = some (.int .u8 t) ∧ W.cell? ⟨b, 2, none⟩ = some (.int .u8 f) ∧ W.cell? ⟨b, 3, none⟩ = some (.int .u32 k) ∧ ∀ j, W.frozen? ⟨b, j, none⟩ = false := by
  unfold At at h
  refine ⟨by simp [World.cell?, h], by simp [World.cell?, h], by simp [World.cell?, h], by simp [World.cell?, h], fun j => by simp [World.frozen?, h]⟩
theorem At.new (W : World) (c t f k : Int) : At (W.alloc (.cells #[.int .u16 c, .int .u8 t, .int .u8 f, .int .u32 k] 32)) W.heap.size c t f k := by
  unfold At; exact World.alloc_heap_new W _
theorem At.alloc {W : World} {b : Nat} {c t f k : Int} (h : At W b c t f k) (o : Obj) : At (W.alloc o) b c t f k := h.below ((Below.refl _ _).alloc (Nat.le_refl _) _)

def put4 (W : World) (b : Nat) (c t f k : Int) : World := (((W.setCell ⟨b, 0, none⟩ (.int .u16 c)).setCell ⟨b, 1, none⟩ (.int .u8 t)).setCell ⟨b, 2, none⟩ (.int .u8 f)).setCell ⟨b, 3, none⟩ (.int .u32 k)
theorem set_cells {W : World} {b j : Nat} {cs : Array Value} {T : TypeId} {fr : Nat × Nat} (v : Value) (h : W.heap[b]? = some (.cells cs T fr)) : (W.setCell ⟨b, j, none⟩ v).heap[b]? = some (.cells (cs.setIfInBounds j v) T fr) := by
  simp [World.setCell, Array.getElem?_modify, h]
theorem At.set1 {W : World} {b : Nat} {c t f k : Int} (t' : Int) (h : At W b c t f k) : At (W.setCell ⟨b, 1, none⟩ (.int .u8 t')) b c t' f k := set_cells _ h
theorem At.set2 {W : World} {b : Nat} {c t f k : Int} (f' : Int) (h : At W b c t f k) : At (W.setCell ⟨b, 2, none⟩ (.int .u8 f')) b c t f' k := set_cells _ h
theorem At.set3 {W : World} {b : Nat} {c t f k : Int} (k' : Int) (h : At W b c t f k) : At (W.setCell ⟨b, 3, none⟩ (.int .u32 k')) b c t f k' := set_cells _ h
theorem At.put {W : World} {b : Nat} {c t f k : Int} (c' t' f' k' : Int) (h : At W b c t f k) : At (put4 W b c' t' f' k') b c' t' f' k' := by
  have h0 : (W.setCell ⟨b, 0, none⟩ (.int .u16 c')).heap[b]? = some (.cells #[.int .u16 c', .int .u8 t, .int .u8 f, .int .u32 k] 32 (0, 0)) := set_cells _ h
  exact At.set3 k' (At.set2 f' (At.set1 t' h0))
theorem At.off {W : World} {b b' j : Nat} {c t f k : Int} {v : Value} (h : At W b c t f k) (hne : b ≠ b') : At (W.setCell ⟨b', j, none⟩ v) b c t f k := by
  unfold At at *
  rw [Below.heap_setCell _ _ _ _ hne]; exact h
theorem put_below {w W : World} {b : Nat} {c t f k : Int} (h : Below w.heap.size w W) (hb : w.heap.size ≤ b) : Below w.heap.size w (put4 W b c t f k) :=
  (((h.setCell hb _).setCell hb _).setCell hb _).setCell hb _
end Go.Proofs.Ytcojhfppipdfoab.B
