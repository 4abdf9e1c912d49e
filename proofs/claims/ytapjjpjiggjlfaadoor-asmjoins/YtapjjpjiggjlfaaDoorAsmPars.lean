/-
  The instruction whose line it is, as a walk over the Go text.
-/
import Derived.Test.YtapjjpjiggjlfaaDoorAsmParse
import Derived.RangeFuncRecord
namespace Go.Proofs.YtapjjpjiggjlfaaDoor.M
def pv (o : Option I) : I := o.getD (0, 0, 0, 0)
def perr (o : Option I) : Int := if o.isSome then 0 else 3
end Go.Proofs.YtapjjpjiggjlfaaDoor.M
namespace Go.Proofs.YtapjjpjiggjlfaaDoor.B
open Go.ChangeShapes Go.WideShapes Go.ChangeAt Go.RowKit
open Go.Sort hiding Below
set_option linter.unusedVariables false

/-- an instruction lies in a block of its own -/
def At (W : World) (b : Nat) (c t f k : Int) : Prop := W.heap[b]? = some (.cells #[.int .u16 c, .int .u8 t, .int .u8 f, .int .u32 k] 25 (0, 0))
theorem At.lt {W : World} {b : Nat} {c t f k : Int} (h : At W b c t f k) : b < W.heap.size := by
  rcases Nat.lt_or_ge b W.heap.size with h' | h'
  · exact h'
  · unfold At at h; rw [Array.getElem?_eq_none h'] at h; cases h
theorem At.below {W W' : World} {b : Nat} {c t f k : Int} (h : At W b c t f k) (hb : Below W.heap.size W W') : At W' b c t f k := by
  have := hb.block b h.lt
  unfold At at *
  rw [this]; exact h
theorem At.cells {W : World} {b : Nat} {c t f k : Int} (h : At W b c t f k) : W.cell? ⟨b, 0, none⟩ = some (.int .u16 c) ∧ W.cell? ⟨b, 1, none⟩ = some (.int .u8 t) ∧ W.cell? ⟨b, 2, none⟩ = some (.int .u8 f) ∧ W.cell? ⟨b, 3, none⟩ = some (.int .u32 k) ∧ ∀ j, W.frozen? ⟨b, j, none⟩ = false := by
  unfold At at h
  refine ⟨by simp [World.cell?, h], by simp [World.cell?, h], by simp [World.cell?, h], by simp [World.cell?, h], fun j => by simp [World.frozen?, h]⟩
theorem At.new (W : World) (c t f k : Int) : At (W.alloc (.cells #[.int .u16 c, .int .u8 t, .int .u8 f, .int .u32 k] 25)) W.heap.size c t f k := by
  unfold At; exact World.alloc_heap_new W _
theorem At.alloc {W : World} {b : Nat} {c t f k : Int} (h : At W b c t f k) (o : Obj) : At (W.alloc o) b c t f k := h.below ((Below.refl _ _).alloc (Nat.le_refl _) _)

def put4 (W : World) (b : Nat) (c t f k : Int) : World := (((W.setCell ⟨b, 0, none⟩ (.int .u16 c)).setCell ⟨b, 1, none⟩ (.int .u8 t)).setCell ⟨b, 2, none⟩ (.int .u8 f)).setCell ⟨b, 3, none⟩ (.int .u32 k)
theorem set_cells {W : World} {b j : Nat} {cs : Array Value} {T : TypeId} {fr : Nat × Nat} (v : Value) (h : W.heap[b]? = some (.cells cs T fr)) : (W.setCell ⟨b, j, none⟩ v).heap[b]? = some (.cells (cs.setIfInBounds j v) T fr) := by
  simp [World.setCell, Array.getElem?_modify, h]
theorem At.set1 {W : World} {b : Nat} {c t f k : Int} (t' : Int) (h : At W b c t f k) : At (W.setCell ⟨b, 1, none⟩ (.int .u8 t')) b c t' f k := set_cells _ h
theorem At.set2 {W : World} {b : Nat} {c t f k : Int} (f' : Int) (h : At W b c t f k) : At (W.setCell ⟨b, 2, none⟩ (.int .u8 f')) b c t f' k := set_cells _ h
theorem At.set3 {W : World} {b : Nat} {c t f k : Int} (k' : Int) (h : At W b c t f k) : At (W.setCell ⟨b, 3, none⟩ (.int .u32 k')) b c t f k' := set_cells _ h
theorem At.put {W : World} {b : Nat} {c t f k : Int} (c' t' f' k' : Int) (h : At W b c t f k) : At (put4 W b c' t' f' k') b c' t' f' k' := by
  have h0 : (W.setCell ⟨b, 0, none⟩ (.int .u16 c')).heap[b]? = some (.cells #[.int .u16 c', .int .u8 t, .int .u8 f, .int .u32 k] 25 (0, 0)) := set_cells _ h
  exact At.set3 k' (At.set2 f' (At.set1 t' h0))
theorem At.off {W : World} {b b' j : Nat} {c t f k : Int} {v : Value} (h : At W b c t f k) (hne : b ≠ b') : At (W.setCell ⟨b', j, none⟩ v) b c t f k := by
  unfold At at *
  rw [Below.heap_setCell _ _ _ _ hne]; exact h
theorem put_below {w W : World} {b : Nat} {c t f k : Int} (h : Below w.heap.size w W) (hb : w.heap.size ≤ b) : Below w.heap.size w (put4 W b c t f k) :=
  (((h.setCell hb _).setCell hb _).setCell hb _).setCell hb _
theorem results_cell {fn : Func} (h : fn.results = #[.cell 2 25, .tmp 3]) (tmps : Array Value) (w : World) {b : Nat} {c t f k : Int} (hp : tmps[2]?.getD undef = .pointer (some ⟨b, 0, none⟩)) (hA : At w b c t f k) :
    (results fn tmps).run Tryd.prog w = .ok (.tuple #[.agg #[.int .u16 c, .int .u8 t, .int .u8 f, .int .u32 k], tmps[3]?.getD undef]) w := by
  obtain ⟨a0, a1, a2, a3, a4⟩ := hA.cells
  simp [results, h, hp, go_sem, a0, a1, a2, a3]

set_option maxHeartbeats 1600000 in
set_option maxRecDepth 100000 in
theorem parse_none (s : ByteArray) (hs : s.size ≤ 1000000) (w : World) (hf : M.find (M.bef 32 s.data.toList) = none) :
    Calls Tryd.prog 12 #[.string s] w fun e w' => e = .returned (.tuple #[.agg #[.int .u16 0, .int .u8 0, .int .u8 0, .int .u32 0], .int .i64 3]) ∧ Below w.heap.size w w' := by
  have cC := fun w => cut_any s 32 (by omega) w
  have cF := fun w => find_any (M.bef 32 s.data.toList) (by have := M.bef_len 32 s.data.toList; rw [← bdl] at this; unfold maxLen; omega) w
  rw [hf] at cF
  go_enter Tryd.func12, Tryd.ntmps12
  go_wp2_with (first
    | (go_at_call 27; refine (cC _).mono ?_; rintro e w1 ⟨R, rfl, hb⟩; have hA := (At.new w 0 0 0 0).below hb; have hB := Lib.hid (((Below.refl w.heap.size w).alloc (Nat.le_refl _) _).trans (hb.mono (by simp))); clear hb)
    | (go_at_call 28; refine (cF _).mono ?_; rintro e w2 ⟨rfl, hb⟩; have hA := hA.below hb; have hB := stp hB hb; clear hb; obtain ⟨a0, a1, a2, a3, a4⟩ := hA.cells))
  refine bodyPost_ret (results_cell (c := 0) (t := 0) (f := 0) (k := 0) rfl _ _ rfl (hA.put 0 0 0 0)) rfl ?_
  exact ⟨rfl, put_below hB.out (Nat.le_refl _)⟩
end Go.Proofs.YtapjjpjiggjlfaaDoor.B
