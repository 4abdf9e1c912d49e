/-
  A record in a block of its own: read and written as a whole, and a word at a time.
-/
import Derived.Test.YtgdgigldodbpeaaDoorRecField
import Derived.Laws.CopyOwn
import Derived.Laws.ResultCell
namespace Go.Proofs.YtgdgigldodbpeaaDoor.B
open Go.ChangeShapes Go.WideShapes Go.ChangeAt Go.RowKit
set_option linter.unusedVariables false

theorem zero_lit : (#[.int .u32 0, .int .u32 0, .int .u32 0, .int .u32 0, .int .u32 0, .int .u32 0, .int .u32 0, .int .u32 0, .int .u32 0, .int .u32 0, .int .u32 0, .int .u32 0, .int .u32 0, .int .u32 0, .int .u32 0, .int .u32 0] : Array Value) = enc M.zero := rfl
theorem zero_size : (enc M.zero).size = 16 := rfl

/-- block b is the record l -/
def Rec (W : World) (b : Nat) (l : List Int) : Prop := W.heap[b]? = some (.cells (enc l) 24 (0, 0)) ∧ l.length = 16

theorem Rec.lt {W : World} {b : Nat} {l : List Int} (h : Rec W b l) : b < W.heap.size := (Array.getElem?_eq_some_iff.1 h.1).1
theorem Rec.new (w : World) (l : List Int) (h : l.length = 16) : Rec (w.alloc (.cells (enc l) 24)) w.heap.size l := ⟨heap_alloc_last w _, h⟩
theorem Rec.alloc {W : World} {b : Nat} {l : List Int} (h : Rec W b l) (o : Obj) : Rec (W.alloc o) b l := ⟨by rw [Below.heap_alloc W o b h.lt]; exact h.1, h.2⟩
theorem Rec.below {W W' : World} {B b : Nat} {l : List Int} (h : Rec W b l) (hB : Below B W W') (hb : b < B) : Rec W' b l := ⟨by rw [hB.block b hb]; exact h.1, h.2⟩
theorem Rec.drew {W : World} {b : Nat} {l : List Int} (h : Rec W b l) : Rec W.drew b l := h
theorem Rec.drewN {W : World} {b : Nat} {l : List Int} (h : Rec W b l) (n : Nat) : Rec (W.drewN n) b l := h
theorem Rec.cell {W : World} {b : Nat} {l : List Int} (h : Rec W b l) (k : Nat) (hk : k < 16) : W.cell? ⟨b, k, none⟩ = some (.int .u32 (M.at_ l k)) := by
  rw [cell_of_row W b k (enc l) _ (0, 0) h.1, enc_get h.2 k hk]
/-- the cells of a block from its first on: under a name, so that the walk does not read them one by one -/
def lcf (b n : Nat) : Sem (Array Value) := loadCellsFrom ⟨b, 0, none⟩ 0 n #[]
theorem lcf_eq : ∀ b n, loadCellsFrom ⟨b, 0, none⟩ 0 n #[] = lcf b n := fun _ _ => rfl
theorem Rec.load {W : World} {b : Nat} {l : List Int} (h : Rec W b l) : (lcf b 16).run Tryd.prog W = .ok (enc l) W := by
  unfold lcf
  have := run_loadCells_list (P := Tryd.prog) W ⟨b, 0, none⟩ (enc l).toList (fun j v hv => by
    have hadd : (⟨b, 0, none⟩ : Addr).add j = ⟨b, j, none⟩ := by unfold Addr.add; split <;> simp_all
    rw [hadd, cell_of_row _ _ j (enc l) _ (0, 0) h.1]
    simpa using hv)
  have hs : (enc l).toList.length = 16 := by rw [Array.length_toList, enc_size h.2]
  rw [hs] at this
  simpa [loadCells] using this
theorem Rec.store {W : World} {b : Nat} {l m : List Int} (h : Rec W b l) (hm : m.length = 16) :
    ∃ W2, (storeCells ⟨b, 0, none⟩ (enc m).toList 0).run Tryd.prog W = .ok () W2 ∧ Rec W2 b m ∧ (∀ b' l', b' ≠ b → Rec W b' l' → Rec W2 b' l') ∧ W2.heap.size = W.heap.size ∧ (∀ (B : Nat) (w0 : World), B ≤ b → Below B w0 W → Below B w0 W2) := by
  refine ⟨W.setRow b (enc m), ?_, ⟨setRow_heap W b _ _ _ _ h.1, hm⟩, fun b' l' hb hR => ⟨by rw [setRow_other _ _ _ _ hb]; exact hR.1, hR.2⟩, by simp, fun B w0 hB hW => below_setRow hW hB _⟩
  have ho : (enc l).size = (enc m).size := by rw [enc_size h.2, enc_size hm]
  have := run_storeVar_row (P := Tryd.prog) W b 24 24 (enc l) (enc m) h.1 (by rw [size24, enc_size hm]) ho (enc_one m)
  cases hq : Tryd.prog.info? 24 with
  | none => have := size24; simp [hq] at this
  | some i =>
    have hs : i.size = 16 := by have := size24; simpa [hq] using this
    have hs2 : (enc m).size = 16 := enc_size hm
    simpa [storeVar, sizeOf, typeInfo, hq, Value.cells, hs, hs2] using this
theorem fold16 {l : List Int} (h : l.length = 16) : (#[.int .u32 (M.at_ l 0), .int .u32 (M.at_ l 1), .int .u32 (M.at_ l 2), .int .u32 (M.at_ l 3), .int .u32 (M.at_ l 4), .int .u32 (M.at_ l 5), .int .u32 (M.at_ l 6), .int .u32 (M.at_ l 7), .int .u32 (M.at_ l 8), .int .u32 (M.at_ l 9), .int .u32 (M.at_ l 10), .int .u32 (M.at_ l 11), .int .u32 (M.at_ l 12), .int .u32 (M.at_ l 13), .int .u32 (M.at_ l 14), .int .u32 (M.at_ l 15)] : Array Value) = enc l := by
  match l, h with
  | [_, _, _, _, _, _, _, _, _, _, _, _, _, _, _, _], _ => rfl
theorem Rec.frozen {W : World} {b : Nat} {l : List Int} (h : Rec W b l) (k : Nat) : W.frozen? ⟨b, k, none⟩ = false := by
  simp [World.frozen?, h.1]
theorem Rec.loadVar {W : World} {b : Nat} {l : List Int} (h : Rec W b l) : (loadVar 24 ⟨b, 0, none⟩).run Tryd.prog W = .ok (.agg (enc l)) W :=
  run_loadVar_row W b 24 24 (enc l) (0, 0) _ h.1 Tryd.underlying24 rfl (by rw [size24, enc_size h.2])
theorem results_rec {fn : Func} {p u : Tmp} (h : fn.results = #[.cell p 24, .tmp u]) (tmps : Array Value) {W : World} {b : Nat} {l : List Int} (hp : tmps.getD p undef = .pointer (some ⟨b, 0, none⟩)) (hR : Rec W b l) :
    (results fn tmps).run Tryd.prog W = .ok (.tuple #[.agg (enc l), tmps.getD u undef]) W := by
  rw [results_cell_tmp h, hp]
  simp [asAddr, Result.andThen, hR.loadVar]
theorem heap_setCell_same (W : World) (b k : Nat) (v : Value) (cs : Array Value) (t : TypeId) (fr : Nat × Nat) (h : W.heap[b]? = some (.cells cs t fr)) : (W.setCell ⟨b, k, none⟩ v).heap[b]? = some (.cells (cs.setIfInBounds k v) t fr) := by
  simp [World.setCell, Array.getElem?_modify, h]
theorem Rec.set {W : World} {b : Nat} {l : List Int} (h : Rec W b l) (k : Nat) (x : Int) :
    ∃ W2, W.setCell ⟨b, k, none⟩ (.int .u32 x) = W2 ∧ Rec W2 b (l.set k x) ∧ (∀ b' l', b' ≠ b → Rec W b' l' → Rec W2 b' l') ∧ W2.heap.size = W.heap.size ∧ (∀ (B : Nat) (w0 : World), B ≤ b → Below B w0 W → Below B w0 W2) := by
  refine ⟨_, rfl, ⟨?_, by rw [List.length_set]; exact h.2⟩, fun b' l' hb hR => ⟨by rw [Below.heap_setCell _ _ _ _ hb]; exact hR.1, hR.2⟩, by simp, fun B w0 hB hW => hW.setCell hB _⟩
  rw [heap_setCell_same W b k _ _ _ _ h.1, enc_set]
theorem index_cell (t e : TypeId) (n : Nat) (cs : Array Value) (v : Value) (k : Nat) (hu : Tryd.prog.underlying t = some (.array n e)) (he : ∀ w, (isAgg e).run Tryd.prog w = .ok false w) (hs : ∀ w, (sizeOf e).run Tryd.prog w = .ok 1 w) (hk : k < n) (h : cs[k]? = some v) (W : World) :
    (Instr.index t (.agg cs) (.int .i64 (k : Int))).run Tryd.prog W = .ok v W := by
  simp [Instr.index, asIntOf, Sem.run_bind, run_underlying hu, Result.andThen, hs, he, part, h, hk]
theorem index24 {l : List Int} (h16 : l.length = 16) (k : Nat) (hk : k < 16) (W : World) : (Instr.index 24 (.agg (enc l)) (.int .i64 (k : Int))).run Tryd.prog W = .ok (.int .u32 (M.at_ l k)) W :=
  index_cell 24 22 16 (enc l) _ k Tryd.underlying24 (fun w => by simp [go_sem]) (fun w => by simp [go_sem]) hk (enc_get h16 k hk) W
end Go.Proofs.YtgdgigldodbpeaaDoor.B
