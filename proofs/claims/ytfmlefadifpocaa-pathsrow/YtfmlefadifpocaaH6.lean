/-
  A record in a block of its own: read and written as a whole, and a word at a time.
-/
import Derived.Test.YtfmlefadifpocaaH1
import Derived.Laws.CopyOwn
import Derived.Laws.ResultCell
import Derived.Carry
import Derived.Test.YtfmlefadifpocaaH2
import Derived.Test.YtfmlefadifpocaaH5
import Derived.Test.YtfmlefadifpocaaHR
namespace Go.Proofs.Ytfmlefadifpocaa.RB
open Go.ChangeShapes Go.WideShapes Go.ChangeAt Go.RowKit
set_option linter.unusedVariables false

theorem zero_lit : (#[.int .u32 0, .int .u32 0, .int .u32 0, .int .u32 0, .int .u32 0, .int .u32 0, .int .u32 0, .int .u32 0, .int .u32 0, .int .u32 0, .int .u32 0, .int .u32 0, .int .u32 0, .int .u32 0, .int .u32 0, .int .u32 0] : Array Value) = enc R.zero := rfl
theorem zero_size : (enc R.zero).size = 16 := rfl

/-- block b is the record l -/
def Rec (W : World) (b : Nat) (l : List Int) : Prop := W.heap[b]? = some (.cells (enc l) 75 (0, 0)) ∧ l.length = 16

theorem Rec.lt {W : World} {b : Nat} {l : List Int} (h : Rec W b l) : b < W.heap.size := (Array.getElem?_eq_some_iff.1 h.1).1
theorem Rec.new (w : World) (l : List Int) (h : l.length = 16) : Rec (w.alloc (.cells (enc l) 75)) w.heap.size l := ⟨heap_alloc_last w _, h⟩
theorem Rec.alloc {W : World} {b : Nat} {l : List Int} (h : Rec W b l) (o : Obj) : Rec (W.alloc o) b l := ⟨by rw [Below.heap_alloc W o b h.lt]; exact h.1, h.2⟩
theorem Rec.below {W W' : World} {B b : Nat} {l : List Int} (h : Rec W b l) (hB : Below B W W') (hb : b < B) : Rec W' b l := ⟨by rw [hB.block b hb]; exact h.1, h.2⟩
theorem Rec.drew {W : World} {b : Nat} {l : List Int} (h : Rec W b l) : Rec W.drew b l := h
theorem Rec.drewN {W : World} {b : Nat} {l : List Int} (h : Rec W b l) (n : Nat) : Rec (W.drewN n) b l := h
theorem Rec.cell {W : World} {b : Nat} {l : List Int} (h : Rec W b l) (k : Nat) (hk : k < 16) : W.cell? ⟨b, k, none⟩ = some (.int .u32 (R.at_ l k)) := by
  rw [cell_of_row W b k (enc l) _ (0, 0) h.1, enc_get h.2 k hk]
/-- the cells of a block from its first on: under a name, so that the walk does not read them one by one -/
def lcf (b n : Nat) : Sem (Array Value) := loadCellsFrom ⟨b, 0, none⟩ 0 n #[]
theorem lcf_eq : ∀ b n, loadCellsFrom ⟨b, 0, none⟩ 0 n #[] = lcf b n := fun _ _ => rfl
theorem Rec.load {W : World} {b : Nat} {l : List Int} (h : Rec W b l) : (lcf b 16).run Try.prog W = .ok (enc l) W := by
  unfold lcf
  have := run_loadCells_list (P := Try.prog) W ⟨b, 0, none⟩ (enc l).toList (fun j v hv => by
    have hadd : (⟨b, 0, none⟩ : Addr).add j = ⟨b, j, none⟩ := by unfold Addr.add; split <;> simp_all
    rw [hadd, cell_of_row _ _ j (enc l) _ (0, 0) h.1]
    simpa using hv)
  have hs : (enc l).toList.length = 16 := by rw [Array.length_toList, enc_size h.2]
  rw [hs] at this
  simpa [loadCells] using this
theorem Rec.store {W : World} {b : Nat} {l m : List Int} (h : Rec W b l) (hm : m.length = 16) :
    ∃ W2, (storeCells ⟨b, 0, none⟩ (enc m).toList 0).run Try.prog W = .ok () W2 ∧ Rec W2 b m ∧ (∀ b' l', b' ≠ b → Rec W b' l' → Rec W2 b' l') ∧ W2.heap.size = W.heap.size ∧ (∀ (B : Nat) (w0 : World), B ≤ b → Below B w0 W → Below B w0 W2) := by
  refine ⟨W.setRow b (enc m), ?_, ⟨setRow_heap W b _ _ _ _ h.1, hm⟩, fun b' l' hb hR => ⟨by rw [setRow_other _ _ _ _ hb]; exact hR.1, hR.2⟩, by simp, fun B w0 hB hW => below_setRow hW hB _⟩
  have ho : (enc l).size = (enc m).size := by rw [enc_size h.2, enc_size hm]
  have := run_storeVar_row (P := Try.prog) W b 75 75 (enc l) (enc m) h.1 (by rw [size24, enc_size hm]) ho (enc_one m)
  cases hq : Try.prog.info? 75 with
  | none => have := size24; simp [hq] at this
  | some i =>
    have hs : i.size = 16 := by have := size24; simpa [hq] using this
    have hs2 : (enc m).size = 16 := enc_size hm
    simpa [storeVar, sizeOf, typeInfo, hq, Value.cells, hs, hs2] using this
theorem fold16 {l : List Int} (h : l.length = 16) : (#[.int .u32 (R.at_ l 0), .int .u32 (R.at_ l 1), .int .u32 (R.at_ l 2), .int .u32 (R.at_ l 3), .int .u32 (R.at_ l 4), .int .u32 (R.at_ l 5), .int .u32 (R.at_ l 6), .int .u32 (R.at_ l 7), .int .u32 (R.at_ l 8), .int .u32 (R.at_ l 9), .int .u32 (R.at_ l 10), .int .u32 (R.at_ l 11), .int .u32 (R.at_ l 12), .int .u32 (R.at_ l 13), .int .u32 (R.at_ l 14), .int .u32 (R.at_ l 15)] : Array Value) = enc l := by
  match l, h with
  | [_, _, _, _, _, _, _, _, _, _, _, _, _, _, _, _], _ => rfl
theorem Rec.frozen {W : World} {b : Nat} {l : List Int} (h : Rec W b l) (k : Nat) : W.frozen? ⟨b, k, none⟩ = false := by
  simp [World.frozen?, h.1]
theorem Rec.loadVar {W : World} {b : Nat} {l : List Int} (h : Rec W b l) : (loadVar 75 ⟨b, 0, none⟩).run Try.prog W = .ok (.agg (enc l)) W :=
  run_loadVar_row W b 75 75 (enc l) (0, 0) _ h.1 Try.underlying75 rfl (by rw [size24, enc_size h.2])
theorem results_rec {fn : Func} {p u : Tmp} (h : fn.results = #[.cell p 75, .tmp u]) (tmps : Array Value) {W : World} {b : Nat} {l : List Int} (hp : tmps.getD p undef = .pointer (some ⟨b, 0, none⟩)) (hR : Rec W b l) :
    (results fn tmps).run Try.prog W = .ok (.tuple #[.agg (enc l), tmps.getD u undef]) W := by
  rw [results_cell_tmp h, hp]
  simp [asAddr, Result.andThen, hR.loadVar]
theorem heap_setCell_same (W : World) (b k : Nat) (v : Value) (cs : Array Value) (t : TypeId) (fr : Nat × Nat) (h : W.heap[b]? = some (.cells cs t fr)) : (W.setCell ⟨b, k, none⟩ v).heap[b]? = some (.cells (cs.setIfInBounds k v) t fr) := by
  simp [World.setCell, Array.getElem?_modify, h]
theorem Rec.set {W : World} {b : Nat} {l : List Int} (h : Rec W b l) (k : Nat) (x : Int) :
    ∃ W2, W.setCell ⟨b, k, none⟩ (.int .u32 x) = W2 ∧ Rec W2 b (l.set k x) ∧ (∀ b' l', b' ≠ b → Rec W b' l' → Rec W2 b' l') ∧ W2.heap.size = W.heap.size ∧ (∀ (B : Nat) (w0 : World), B ≤ b → Below B w0 W → Below B w0 W2) := by
  refine ⟨_, rfl, ⟨?_, by rw [List.length_set]; exact h.2⟩, fun b' l' hb hR => ⟨by rw [Below.heap_setCell _ _ _ _ hb]; exact hR.1, hR.2⟩, by simp, fun B w0 hB hW => hW.setCell hB _⟩
  rw [heap_setCell_same W b k _ _ _ _ h.1, enc_set]
theorem index_cell (t e : TypeId) (n : Nat) (cs : Array Value) (v : Value) (k : Nat) (hu : Try.prog.underlying t = some (.array n e)) (he : ∀ w, (isAgg e).run Try.prog w = .ok false w) (hs : ∀ w, (sizeOf e).run Try.prog w = .ok 1 w) (hk : k < n) (h : cs[k]? = some v) (W : World) :
    (Instr.index t (.agg cs) (.int .i64 (k : Int))).run Try.prog W = .ok v W := by
  simp [Instr.index, asIntOf, Sem.run_bind, run_underlying hu, Result.andThen, hs, he, part, h, hk]
theorem index24 {l : List Int} (h16 : l.length = 16) (k : Nat) (hk : k < 16) (W : World) : (Instr.index 75 (.agg (enc l)) (.int .i64 (k : Int))).run Try.prog W = .ok (.int .u32 (R.at_ l k)) W :=
  index_cell 75 36 16 (enc l) _ k Try.underlying75 (fun w => by simp [go_sem]) (fun w => by simp [go_sem]) hk (enc_get h16 k hk) W
end Go.Proofs.Ytfmlefadifpocaa.RB
namespace Go.Proofs.Ytfmlefadifpocaa.RB
open Go.ChangeShapes Go.WideShapes Go.ChangeAt Go.RowKit
set_option linter.unusedVariables false

theorem cells24 : Try.prog.cellsOf 75 = 16 := by kernel_rfl
theorem cells22 : Try.prog.cellsOf 36 = 1 := by kernel_rfl

theorem open_rec {H : Type} {ev : TypeId × Value → H} {W : World} {base : Nat} {spare : Nat → Bool} {held : Bool} {fuel : Nat} {cs : List Value} {x : DataW H × List MemPlace}
    (h : DataW.trod ev Try.prog W base spare held fuel 75 cs = some x) :
    ∃ l : List Int, cs = (enc l).toList ∧ x.2 = [] ∧ R.okR l := by
  obtain ⟨xs, m, _, hx, hl, hxl, hel⟩ := DataW.trod_array Try.underlying75 h
  rw [cells24] at hl
  have key : ∀ i, i < 16 → ∃ n : Int, cs[i]? = some (.int .u32 n) ∧ (∃ y, xs[i]? = some y ∧ y.2 = []) ∧ (0 ≤ n ∧ n < 4294967296) := by
    intro i hi
    have h1 := hel i hi
    obtain ⟨y, hy⟩ : ∃ y, xs[i]? = some y := ⟨_, List.getElem?_eq_getElem (by omega)⟩
    rw [hy] at h1
    obtain ⟨n, e1, e2, wf⟩ := DataW.trod_int Try.underlying36 h1
    rw [cells22, Nat.mul_one] at e1
    refine ⟨n, ?_, ⟨y, hy, by rw [e2]⟩, by have := bounds_u32 wf; omega⟩
    have := congrArg (fun l => l[0]?) e1
    simpa [List.getElem?_take, List.getElem?_drop] using this
  obtain ⟨l, hl16, hg⟩ : ∃ l : List Int, l.length = 16 ∧ ∀ i, i < 16 → ∀ n, cs[i]? = some (.int .u32 n) → R.at_ l i = n := by
    refine ⟨(List.range 16).map fun i => intOf (cs.getD i (.int .u32 0)), by simp, fun i hi n hn => ?_⟩
    simp [R.at_, List.getD_eq_getElem?_getD, List.getElem?_range hi, hn, intOf]
  refine ⟨l, ?_, ?_, hl16, ?_⟩
  · apply List.ext_getElem?
    intro i
    by_cases hi : i < 16
    · obtain ⟨n, e, _, _⟩ := key i hi
      rw [e, Array.getElem?_toList, enc_get hl16 i hi, hg i hi n e]
    · rw [List.getElem?_eq_none (by omega), List.getElem?_eq_none (by rw [Array.length_toList, enc_size hl16]; omega)]
  · rw [hx]
    simp only [List.flatMap_eq_nil_iff]
    intro y hy
    obtain ⟨i, hi, rfl⟩ := List.getElem_of_mem hy
    obtain ⟨_, _, ⟨z, hz, hz2⟩, _⟩ := key i (by omega)
    rw [List.getElem?_eq_getElem hi] at hz
    simp only [Option.some.injEq] at hz
    rw [hz]; exact hz2
  · intro i
    by_cases hi : i < 16
    · obtain ⟨n, e, _, b⟩ := key i hi
      have := hg i hi n e
      unfold R.at_ at this
      rw [this]; exact b
    · rw [List.getD_eq_getElem?_getD, List.getElem?_eq_none (by omega)]; decide

theorem arg_rec {H : Type} {ev : TypeId × Value → H} {W : World} {base : Nat} {spare : Nat → Bool} {held : Bool} {v : Value} {d : DataW H} {p : List MemPlace} {b0 : Nat} {r : Reach}
    (hv : Value.okWide Try.prog W r b0 75 v) (h : DataW.Trod ev Try.prog W base spare held 75 v d p) :
    ∃ l : List Int, v = .agg (enc l) ∧ p = [] ∧ R.okR l := by
  obtain ⟨cs, rfl, hsz, _⟩ : ∃ cs, v = .agg cs ∧ cs.size = Try.prog.cellsOf 75 ∧ Row.okWide Try.prog W r b0 75 cs := by
    simpa [Value.okWide, Try.underlying75] using hv
  obtain ⟨fuel, hf⟩ := h
  obtain ⟨l, e, e2, ok⟩ := open_rec hf
  refine ⟨l, ?_, e2, ok⟩
  simp only [Value.cells] at e
  rw [Array.toList_inj.1 e]
end Go.Proofs.Ytfmlefadifpocaa.RB
namespace Go.Proofs.Ytfmlefadifpocaa.M
set_option linter.unusedVariables false

/-- a state: the place, A, X, the scratch words, whether it has ended, the answer -/
structure S where
  pc : Int
  a : Int
  x : Int
  m : List Int
  en : Bool
  an : Int
def w32 (n : Int) : Prop := 0 ≤ n ∧ n < 4294967296
structure okS (s : S) : Prop where
  a : w32 s.a
  x : w32 s.x
  m : R.okR s.m
  an : w32 s.an
def s0 : S := ⟨0, 0, 0, R.zero, false, 0⟩
def opI (i : I) : Int := i.1 / 16 % 16 * 16
def oth (i : I) (s : S) : Int := if i.1 / 8 % 2 = 1 then s.x else i.2.2.2
/-- what an instruction does -/
def stepI (i : I) (r : List Int) (s : S) : S :=
  if kind i.1 = 1 then { s with a := R.at_ r (i.2.2.2 / 4).toNat, pc := s.pc + 1 }
  else if kind i.1 = 2 then { s with a := 64, pc := s.pc + 1 }
  else if kind i.1 = 3 then { s with a := i.2.2.2, pc := s.pc + 1 }
  else if kind i.1 = 4 then { s with a := R.at_ s.m i.2.2.2.toNat, pc := s.pc + 1 }
  else if kind i.1 = 5 then { s with x := i.2.2.2, pc := s.pc + 1 }
  else if kind i.1 = 6 then { s with x := R.at_ s.m i.2.2.2.toNat, pc := s.pc + 1 }
  else if kind i.1 = 7 then { s with x := 64, pc := s.pc + 1 }
  else if kind i.1 = 8 then { s with m := s.m.set i.2.2.2.toNat s.a, pc := s.pc + 1 }
  else if kind i.1 = 9 then { s with m := s.m.set i.2.2.2.toNat s.x, pc := s.pc + 1 }
  else if kind i.1 = 10 then (if WM.ok (opI i) (oth i s) = true then { s with a := WM.val (opI i) s.a (oth i s), pc := s.pc + 1 } else { s with a := 0, en := true, an := 0 })
  else if kind i.1 = 11 then { s with pc := s.pc + 1 + i.2.2.2 }
  else if kind i.1 = 12 then { s with pc := s.pc + 1 + (if WM.ask (opI i) s.a (oth i s) = true then i.2.1 else i.2.2.1) }
  else if kind i.1 = 13 then { s with en := true, an := i.2.2.2 }
  else if kind i.1 = 14 then { s with en := true, an := s.a }
  else if kind i.1 = 15 then { s with x := s.a, pc := s.pc + 1 }
  else if kind i.1 = 16 then { s with a := s.x, pc := s.pc + 1 }
  else s

theorem kind_le (c : Int) : 0 ≤ kind c ∧ kind c ≤ 16 := by
  by_cases h : c ∈ codes
  · have : ∀ c ∈ codes, 0 ≤ kind c ∧ kind c ≤ 16 := by decide
    exact this c h
  · rw [kind_none h]; omega

theorem st1 {c t f k : Int} {r : List Int} {s : S} (h : kind c = 1) : stepI (c, t, f, k) r s = { s with a := R.at_ r (k / 4).toNat, pc := s.pc + 1 } := by
  unfold stepI
  simp only
  rw [if_pos h]
theorem st2 {c t f k : Int} {r : List Int} {s : S} (h : kind c = 2) : stepI (c, t, f, k) r s = { s with a := 64, pc := s.pc + 1 } := by
  unfold stepI
  simp only
  rw [if_neg (by omega), if_pos h]
theorem st3 {c t f k : Int} {r : List Int} {s : S} (h : kind c = 3) : stepI (c, t, f, k) r s = { s with a := k, pc := s.pc + 1 } := by
  unfold stepI
  simp only
  rw [if_neg (by omega), if_neg (by omega), if_pos h]
theorem st4 {c t f k : Int} {r : List Int} {s : S} (h : kind c = 4) : stepI (c, t, f, k) r s = { s with a := R.at_ s.m k.toNat, pc := s.pc + 1 } := by
  unfold stepI
  simp only
  rw [if_neg (by omega), if_neg (by omega), if_neg (by omega), if_pos h]
theorem st5 {c t f k : Int} {r : List Int} {s : S} (h : kind c = 5) : stepI (c, t, f, k) r s = { s with x := k, pc := s.pc + 1 } := by
  unfold stepI
  simp only
  rw [if_neg (by omega), if_neg (by omega), if_neg (by omega), if_neg (by omega), if_pos h]
theorem st6 {c t f k : Int} {r : List Int} {s : S} (h : kind c = 6) : stepI (c, t, f, k) r s = { s with x := R.at_ s.m k.toNat, pc := s.pc + 1 } := by
  unfold stepI
  simp only
  rw [if_neg (by omega), if_neg (by omega), if_neg (by omega), if_neg (by omega), if_neg (by omega), if_pos h]
theorem st7 {c t f k : Int} {r : List Int} {s : S} (h : kind c = 7) : stepI (c, t, f, k) r s = { s with x := 64, pc := s.pc + 1 } := by
  unfold stepI
  simp only
  rw [if_neg (by omega), if_neg (by omega), if_neg (by omega), if_neg (by omega), if_neg (by omega), if_neg (by omega), if_pos h]
theorem st8 {c t f k : Int} {r : List Int} {s : S} (h : kind c = 8) : stepI (c, t, f, k) r s = { s with m := s.m.set k.toNat s.a, pc := s.pc + 1 } := by
  unfold stepI
  simp only
  rw [if_neg (by omega), if_neg (by omega), if_neg (by omega), if_neg (by omega), if_neg (by omega), if_neg (by omega), if_neg (by omega), if_pos h]
theorem st9 {c t f k : Int} {r : List Int} {s : S} (h : kind c = 9) : stepI (c, t, f, k) r s = { s with m := s.m.set k.toNat s.x, pc := s.pc + 1 } := by
  unfold stepI
  simp only
  rw [if_neg (by omega), if_neg (by omega), if_neg (by omega), if_neg (by omega), if_neg (by omega), if_neg (by omega), if_neg (by omega), if_neg (by omega), if_pos h]
theorem st10 {c t f k : Int} {r : List Int} {s : S} (h : kind c = 10) : stepI (c, t, f, k) r s = (if WM.ok (opI (c, t, f, k)) (oth (c, t, f, k) s) = true then { s with a := WM.val (opI (c, t, f, k)) s.a (oth (c, t, f, k) s), pc := s.pc + 1 } else { s with a := 0, en := true, an := 0 }) := by
  unfold stepI
  simp only
  rw [if_neg (by omega), if_neg (by omega), if_neg (by omega), if_neg (by omega), if_neg (by omega), if_neg (by omega), if_neg (by omega), if_neg (by omega), if_neg (by omega), if_pos h]
theorem st11 {c t f k : Int} {r : List Int} {s : S} (h : kind c = 11) : stepI (c, t, f, k) r s = { s with pc := s.pc + 1 + k } := by
  unfold stepI
  simp only
  rw [if_neg (by omega), if_neg (by omega), if_neg (by omega), if_neg (by omega), if_neg (by omega), if_neg (by omega), if_neg (by omega), if_neg (by omega), if_neg (by omega), if_neg (by omega), if_pos h]
theorem st12 {c t f k : Int} {r : List Int} {s : S} (h : kind c = 12) : stepI (c, t, f, k) r s = { s with pc := s.pc + 1 + (if WM.ask (opI (c, t, f, k)) s.a (oth (c, t, f, k) s) = true then t else f) } := by
  unfold stepI
  simp only
  rw [if_neg (by omega), if_neg (by omega), if_neg (by omega), if_neg (by omega), if_neg (by omega), if_neg (by omega), if_neg (by omega), if_neg (by omega), if_neg (by omega), if_neg (by omega), if_neg (by omega), if_pos h]
theorem st13 {c t f k : Int} {r : List Int} {s : S} (h : kind c = 13) : stepI (c, t, f, k) r s = { s with en := true, an := k } := by
  unfold stepI
  simp only
  rw [if_neg (by omega), if_neg (by omega), if_neg (by omega), if_neg (by omega), if_neg (by omega), if_neg (by omega), if_neg (by omega), if_neg (by omega), if_neg (by omega), if_neg (by omega), if_neg (by omega), if_neg (by omega), if_pos h]
theorem st14 {c t f k : Int} {r : List Int} {s : S} (h : kind c = 14) : stepI (c, t, f, k) r s = { s with en := true, an := s.a } := by
  unfold stepI
  simp only
  rw [if_neg (by omega), if_neg (by omega), if_neg (by omega), if_neg (by omega), if_neg (by omega), if_neg (by omega), if_neg (by omega), if_neg (by omega), if_neg (by omega), if_neg (by omega), if_neg (by omega), if_neg (by omega), if_neg (by omega), if_pos h]
theorem st15 {c t f k : Int} {r : List Int} {s : S} (h : kind c = 15) : stepI (c, t, f, k) r s = { s with x := s.a, pc := s.pc + 1 } := by
  unfold stepI
  simp only
  rw [if_neg (by omega), if_neg (by omega), if_neg (by omega), if_neg (by omega), if_neg (by omega), if_neg (by omega), if_neg (by omega), if_neg (by omega), if_neg (by omega), if_neg (by omega), if_neg (by omega), if_neg (by omega), if_neg (by omega), if_neg (by omega), if_pos h]
theorem st16 {c t f k : Int} {r : List Int} {s : S} (h : kind c = 16) : stepI (c, t, f, k) r s = { s with a := s.x, pc := s.pc + 1 } := by
  unfold stepI
  simp only
  rw [if_neg (by omega), if_neg (by omega), if_neg (by omega), if_neg (by omega), if_neg (by omega), if_neg (by omega), if_neg (by omega), if_neg (by omega), if_neg (by omega), if_neg (by omega), if_neg (by omega), if_neg (by omega), if_neg (by omega), if_neg (by omega), if_neg (by omega), if_pos h]
/-- behind an instruction of a program it has ended where it was, or stands at one of the places that come behind -/
theorem step_next {i : I} (ok : okI i) (r : List Int) {s : S} {p : Nat} (hp : s.pc = p) (hk : kind i.1 ≠ 0) (he : s.en = false) :
    ((stepI i r s).en = true ∧ (stepI i r s).pc = p) ∨ ((stepI i r s).en = false ∧ ∃ q ∈ nxt p i, (stepI i r s).pc = q) := by
  obtain ⟨c, t, f, k⟩ := i
  obtain ⟨b0, b1, b2, b3⟩ := ok
  simp only at b0 b1 b2 b3 hk
  have hle := kind_le c
  have plain : ∀ t' : S, kind c ≠ 11 → kind c ≠ 12 → kind c ≠ 13 → kind c ≠ 14 → t'.en = false → t'.pc = s.pc + 1 → (t'.en = true ∧ t'.pc = p) ∨ (t'.en = false ∧ ∃ q ∈ nxt p (c, t, f, k), t'.pc = q) := by
    intro t' h1 h2 h3 h4 e1 e2
    refine .inr ⟨e1, p + 1, ?_, by rw [e2, hp]; omega⟩
    unfold nxt
    simp only
    rw [if_neg h1, if_neg h2, if_neg (by omega)]; simp
  have cs : kind c = 1 ∨ kind c = 2 ∨ kind c = 3 ∨ kind c = 4 ∨ kind c = 5 ∨ kind c = 6 ∨ kind c = 7 ∨ kind c = 8 ∨ kind c = 9 ∨ kind c = 10 ∨ kind c = 11 ∨ kind c = 12 ∨ kind c = 13 ∨ kind c = 14 ∨ kind c = 15 ∨ kind c = 16 := by omega
  rcases cs with h | h | h | h | h | h | h | h | h | h | h | h | h | h | h | h
  · rw [st1 h]; exact plain _ (by omega) (by omega) (by omega) (by omega) he rfl
  · rw [st2 h]; exact plain _ (by omega) (by omega) (by omega) (by omega) he rfl
  · rw [st3 h]; exact plain _ (by omega) (by omega) (by omega) (by omega) he rfl
  · rw [st4 h]; exact plain _ (by omega) (by omega) (by omega) (by omega) he rfl
  · rw [st5 h]; exact plain _ (by omega) (by omega) (by omega) (by omega) he rfl
  · rw [st6 h]; exact plain _ (by omega) (by omega) (by omega) (by omega) he rfl
  · rw [st7 h]; exact plain _ (by omega) (by omega) (by omega) (by omega) he rfl
  · rw [st8 h]; exact plain _ (by omega) (by omega) (by omega) (by omega) he rfl
  · rw [st9 h]; exact plain _ (by omega) (by omega) (by omega) (by omega) he rfl
  · rw [st10 h]
    split
    · exact plain _ (by omega) (by omega) (by omega) (by omega) he rfl
    · exact .inl ⟨rfl, hp⟩
  · rw [st11 h]
    refine .inr ⟨he, p + 1 + k.toNat, ?_, by simp only [hp]; omega⟩
    unfold nxt; simp only; rw [if_pos h]; simp
  · rw [st12 h]
    by_cases ha : WM.ask (opI (c, t, f, k)) s.a (oth (c, t, f, k) s) = true
    · rw [if_pos ha]
      refine .inr ⟨he, p + 1 + t.toNat, ?_, by simp only [hp]; omega⟩
      unfold nxt; simp only; rw [if_neg (by omega), if_pos h]; simp
    · rw [if_neg ha]
      refine .inr ⟨he, p + 1 + f.toNat, ?_, by simp only [hp]; omega⟩
      unfold nxt; simp only; rw [if_neg (by omega), if_pos h]; simp
  · rw [st13 h]; exact .inl ⟨rfl, hp⟩
  · rw [st14 h]; exact .inl ⟨rfl, hp⟩
  · rw [st15 h]; exact plain _ (by omega) (by omega) (by omega) (by omega) he rfl
  · rw [st16 h]; exact plain _ (by omega) (by omega) (by omega) (by omega) he rfl
theorem step_ok {i : I} (ok : okI i) {r : List Int} (hr : R.okR r) {s : S} (hs : okS s) (hl : kind i.1 = 4 ∨ kind i.1 = 6 ∨ kind i.1 = 8 ∨ kind i.1 = 9 → i.2.2.2 < 16) : okS (stepI i r s) := by
  obtain ⟨c, t, f, k⟩ := i
  obtain ⟨b0, b1, b2, b3⟩ := ok
  simp only at b0 b1 b2 b3 hl
  have hle := kind_le c
  have z : w32 0 := by unfold w32; omega
  have z64 : w32 64 := by unfold w32; omega
  have set : ∀ v, w32 v → R.okR (s.m.set k.toNat v) := by
    intro v hv
    refine ⟨by rw [List.length_set]; exact hs.m.1, fun i => ?_⟩
    rw [List.getD_eq_getElem?_getD, List.getElem?_set]
    split
    · split
      · exact hv
      · simp
    · have := hs.m.2 i; rw [List.getD_eq_getElem?_getD] at this; exact this
  have cs : kind c = 0 ∨ kind c = 1 ∨ kind c = 2 ∨ kind c = 3 ∨ kind c = 4 ∨ kind c = 5 ∨ kind c = 6 ∨ kind c = 7 ∨ kind c = 8 ∨ kind c = 9 ∨ kind c = 10 ∨ kind c = 11 ∨ kind c = 12 ∨ kind c = 13 ∨ kind c = 14 ∨ kind c = 15 ∨ kind c = 16 := by omega
  rcases cs with h | h | h | h | h | h | h | h | h | h | h | h | h | h | h | h | h
  · unfold stepI; simp only; rw [if_neg (by omega), if_neg (by omega), if_neg (by omega), if_neg (by omega), if_neg (by omega), if_neg (by omega), if_neg (by omega), if_neg (by omega), if_neg (by omega), if_neg (by omega), if_neg (by omega), if_neg (by omega), if_neg (by omega), if_neg (by omega), if_neg (by omega), if_neg (by omega)]; exact hs
  · rw [st1 h]; exact ⟨R.at_bd hr _, hs.x, hs.m, hs.an⟩
  · rw [st2 h]; exact ⟨z64, hs.x, hs.m, hs.an⟩
  · rw [st3 h]; exact ⟨b3, hs.x, hs.m, hs.an⟩
  · rw [st4 h]; exact ⟨R.at_bd hs.m _, hs.x, hs.m, hs.an⟩
  · rw [st5 h]; exact ⟨hs.a, b3, hs.m, hs.an⟩
  · rw [st6 h]; exact ⟨hs.a, R.at_bd hs.m _, hs.m, hs.an⟩
  · rw [st7 h]; exact ⟨hs.a, z64, hs.m, hs.an⟩
  · rw [st8 h]; exact ⟨hs.a, hs.x, set _ hs.a, hs.an⟩
  · rw [st9 h]; exact ⟨hs.a, hs.x, set _ hs.x, hs.an⟩
  · rw [st10 h]
    split
    · exact ⟨WM.val_range _ _ _, hs.x, hs.m, hs.an⟩
    · exact ⟨z, hs.x, hs.m, z⟩
  · rw [st11 h]; exact ⟨hs.a, hs.x, hs.m, hs.an⟩
  · rw [st12 h]; exact ⟨hs.a, hs.x, hs.m, hs.an⟩
  · rw [st13 h]; exact ⟨hs.a, hs.x, hs.m, b3⟩
  · rw [st14 h]; exact ⟨hs.a, hs.x, hs.m, hs.a⟩
  · rw [st15 h]; exact ⟨hs.a, hs.a, hs.m, hs.an⟩
  · rw [st16 h]; exact ⟨hs.x, hs.x, hs.m, hs.an⟩

/-- in a filter each step that doesn't end it goes on within it, forward -/
theorem step_on {l : List I} (hr : right l) (ok : ∀ x ∈ l, okI x) (r : List Int) {s : S} {p : Nat} (hp : s.pc = p) (hpl : p < l.length) (he : s.en = false) :
    ((stepI l[p] r s).en = true ∧ (stepI l[p] r s).pc = p) ∨ ((stepI l[p] r s).en = false ∧ ∃ q : Nat, p < q ∧ q < l.length ∧ (stepI l[p] r s).pc = q) := by
  have hw := ((right_iff l).1 hr).2.1 p hpl
  have hk : kind l[p].1 ≠ 0 := by
    intro h0
    unfold wrong at hw
    rw [List.getElem?_eq_getElem hpl] at hw
    simp only [bne_eq_false_iff_eq] at hw
    unfold loc at hw
    rw [if_pos h0] at hw
    cases hw
  rcases step_next (ok _ (List.getElem_mem hpl)) r hp hk he with h | ⟨h1, q, h2, h3⟩
  · exact .inl h
  · have := Way.on hr (p := p) (q := q) (written := fun _ => True) (written' := fun _ => True) ⟨hpl, fun w hw => absurd trivial hw⟩ h2 (fun w hw => absurd trivial hw) ok
    exact .inr ⟨h1, q, this.1, this.2.1, h3⟩

/-- the machine, for so many steps: the last state, and the places -/
def go (l : List I) (r : List Int) : Nat → S → S × List Nat
  | 0, s => (s, [])
  | n + 1, s => if s.en = true then (s, []) else ((go l r n (stepI (l.getD s.pc.toNat (0, 0, 0, 0)) r s)).1, s.pc.toNat :: (go l r n (stepI (l.getD s.pc.toNat (0, 0, 0, 0)) r s)).2)
def run (l : List I) (r : List Int) : S × List Nat := go l r l.length s0
theorem go_ended (l : List I) (r : List Int) (n : Nat) {s : S} (h : s.en = true) : go l r n s = (s, []) := by
  cases n with
  | zero => rfl
  | succ n => rw [go, if_pos h]
theorem go_on (l : List I) (r : List Int) (n : Nat) {s : S} {p : Nat} (h : s.en = false) (hp : s.pc = p) (hpl : p < l.length) : go l r (n + 1) s = ((go l r n (stepI l[p] r s)).1, p :: (go l r n (stepI l[p] r s)).2) := by
  rw [go, if_neg (by rw [h]; simp), hp]
  simp only [Int.toNat_natCast]
  rw [List.getD_eq_getElem?_getD, List.getElem?_eq_getElem hpl]
  rfl
/-- as many steps as there are instructions behind are enough -/
theorem go_ends {l : List I} (hr : right l) (ok : ∀ x ∈ l, okI x) (r : List Int) : ∀ (n : Nat) (s : S) (p : Nat), s.pc = p → p < l.length → l.length ≤ p + n → s.en = false →
    (go l r n s).1.en = true ∧ (∃ tl, (go l r n s).2 = p :: tl) ∧ (go l r n s).2.Pairwise (· < ·) ∧ (∀ q ∈ (go l r n s).2, p ≤ q ∧ q < l.length) ∧ (go l r n s).2.length ≤ n := by
  intro n
  induction n with
  | zero => intro s p _ h1 h2; omega
  | succ n ih =>
    intro s p hp hpl hn he
    rw [go_on l r n he hp hpl]
    rcases step_on hr ok r hp hpl he with ⟨h1, h2⟩ | ⟨h1, q, h2, h3, h4⟩
    · rw [go_ended l r n h1]
      exact ⟨h1, ⟨[], rfl⟩, by simp, by simp [hpl], by simp⟩
    · obtain ⟨g1, _, g3, g4, g5⟩ := ih _ q h4 h3 (by omega) h1
      refine ⟨g1, ⟨_, rfl⟩, ?_, ?_, by simp; exact g5⟩
      · simp only [List.pairwise_cons]
        exact ⟨fun a ha => by have := g4 a ha; omega, g3⟩
      · intro a ha
        rcases List.mem_cons.1 ha with rfl | ha
        · exact ⟨Nat.le_refl _, hpl⟩
        · have := g4 a ha; omega
theorem run_ends {l : List I} (hr : right l) (ok : ∀ x ∈ l, okI x) (r : List Int) : (run l r).1.en = true ∧ (∃ tl, (run l r).2 = 0 :: tl) ∧ (run l r).2.Pairwise (· < ·) ∧ (∀ q ∈ (run l r).2, q < l.length) ∧ (run l r).2.length ≤ l.length := by
  have h0 := ((right_iff l).1 hr).1.1
  obtain ⟨h1, h2, h3, h4, h5⟩ := go_ends hr ok r l.length s0 0 rfl h0 (by omega) rfl
  exact ⟨h1, h2, h3, fun q hq => (h4 q hq).2, h5⟩
/-- what hangs on the words that are loaded alone -/
theorem step_words {i : I} {r r' : List Int} {s : S} (h : kind i.1 = 1 → R.at_ r (i.2.2.2 / 4).toNat = R.at_ r' (i.2.2.2 / 4).toNat) : stepI i r s = stepI i r' s := by
  unfold stepI
  by_cases h1 : kind i.1 = 1
  · rw [if_pos h1, if_pos h1, h h1]
  · rw [if_neg h1, if_neg h1]
theorem go_words {l : List I} {r r' : List Int} (h : ∀ i ∈ l, kind i.1 = 1 → R.at_ r (i.2.2.2 / 4).toNat = R.at_ r' (i.2.2.2 / 4).toNat) : ∀ (n : Nat) (s : S), go l r n s = go l r' n s := by
  intro n
  induction n with
  | zero => intro s; rfl
  | succ n ih =>
    intro s
    rw [go, go]
    have e : stepI (l.getD s.pc.toNat (0, 0, 0, 0)) r s = stepI (l.getD s.pc.toNat (0, 0, 0, 0)) r' s := by
      refine step_words fun hk => ?_
      rw [List.getD_eq_getElem?_getD] at hk ⊢
      rcases hq : l[s.pc.toNat]? with _ | i
      · rw [hq] at hk
        exact absurd hk (by decide)
      · rw [hq] at hk
        exact h i (List.mem_of_getElem? hq) hk
    rw [e, ih]
end Go.Proofs.Ytfmlefadifpocaa.M
namespace Go.Proofs.Ytfmlefadifpocaa.B
open Go.ChangeShapes Go.WideShapes Go.ChangeAt Go.RowKit
set_option linter.unusedVariables false

def encS (s : M.S) : Array Value := #[.int .i64 s.pc, .int .u32 s.a, .int .u32 s.x] ++ (RB.enc s.m ++ #[.bool s.en, .int .u32 s.an])
theorem encS_size {s : M.S} (h : s.m.length = 16) : (encS s).size = 21 := by
  unfold encS; rw [Array.size_append, Array.size_append, RB.enc_size h]; rfl
theorem encS_low (s : M.S) (k : Nat) (hk : k < 3) : (encS s)[k]? = (#[.int .i64 s.pc, .int .u32 s.a, .int .u32 s.x] : Array Value)[k]? := by
  unfold encS; rw [Array.getElem?_append_left (by simpa using hk)]
theorem encS_mid {s : M.S} (h : s.m.length = 16) (k : Nat) (hk : k < 16) : (encS s)[3 + k]? = some (.int .u32 (R.at_ s.m k)) := by
  unfold encS
  rw [Array.getElem?_append_right (by simp), show 3 + k - (#[.int .i64 s.pc, .int .u32 s.a, .int .u32 s.x] : Array Value).size = k by simp, Array.getElem?_append_left (by rw [RB.enc_size h]; exact hk), RB.enc_get h k hk]
theorem encS_high {s : M.S} (h : s.m.length = 16) (k : Nat) : (encS s)[19 + k]? = (#[.bool s.en, .int .u32 s.an] : Array Value)[k]? := by
  unfold encS
  rw [Array.getElem?_append_right (by simp; omega), show 19 + k - (#[.int .i64 s.pc, .int .u32 s.a, .int .u32 s.x] : Array Value).size = 16 + k by simp; omega, Array.getElem?_append_right (by rw [RB.enc_size h]; omega), RB.enc_size h, show 16 + k - 16 = k by omega]
theorem encS_set {s t : M.S} {k : Nat} {v : Value} (h : s.m.length = 16) (ht : t.m.length = 16) (hv : (encS t)[k]? = some v) (ho : ∀ j, j ≠ k → (encS t)[j]? = (encS s)[j]?) : (encS s).setIfInBounds k v = encS t := by
  apply Array.ext_getElem?
  intro j
  rw [Array.getElem?_setIfInBounds]
  split
  · rename_i e
    subst e
    rw [hv]
    have : k < (encS s).size := by
      rw [encS_size h, ← encS_size ht]
      exact (Array.getElem?_eq_some_iff.1 hv).1
    rw [if_pos this]
  · rename_i e; exact (ho j (fun h => e h.symm)).symm
/-- two states that are alike but for a part have the same cells but for that part's -/
theorem encS_get {s : M.S} (h : s.m.length = 16) (j : Nat) : (encS s)[j]? = if j = 0 then some (.int .i64 s.pc) else if j = 1 then some (.int .u32 s.a) else if j = 2 then some (.int .u32 s.x) else if j < 19 then some (.int .u32 (R.at_ s.m (j - 3))) else if j = 19 then some (.bool s.en) else if j = 20 then some (.int .u32 s.an) else none := by
  by_cases h3 : j < 3
  · rw [encS_low s j h3]
    have : j = 0 ∨ j = 1 ∨ j = 2 := by omega
    rcases this with rfl | rfl | rfl <;> rfl
  · rw [if_neg (by omega), if_neg (by omega), if_neg (by omega)]
    by_cases h19 : j < 19
    · obtain ⟨k, rfl⟩ : ∃ k, j = 3 + k := ⟨j - 3, by omega⟩
      rw [if_pos h19, encS_mid h k (by omega), show 3 + k - 3 = k by omega]
    · rw [if_neg h19]
      obtain ⟨k, rfl⟩ : ∃ k, j = 19 + k := ⟨j - 19, by omega⟩
      rw [encS_high h k]
      by_cases e0 : k = 0
      · subst e0; rfl
      · by_cases e1 : k = 1
        · subst e1; rfl
        · rw [if_neg (by omega), if_neg (by omega), Array.getElem?_eq_none (by simp; omega)]
/-- block b is the state s, of the type t -/
def St (W : World) (b : Nat) (t : TypeId) (s : M.S) : Prop := W.heap[b]? = some (.cells (encS s) t (0, 0)) ∧ s.m.length = 16
section
variable {W W' : World} {b : Nat} {t : TypeId} {s : M.S}
theorem St.lt (h : St W b t s) : b < W.heap.size := (Array.getElem?_eq_some_iff.1 h.1).1
theorem St.new (w : World) (t : TypeId) (s : M.S) (h : s.m.length = 16) : St (w.alloc (.cells (encS s) t)) w.heap.size t s := ⟨heap_alloc_last w _, h⟩
theorem St.below (h : St W b t s) (hb : Below W.heap.size W W') : St W' b t s := ⟨by rw [hb.block b h.lt]; exact h.1, h.2⟩
theorem St.far {B : Nat} (h : St W b t s) (hb : Below B W W') (hB : b < B) : St W' b t s := ⟨by rw [hb.block b hB]; exact h.1, h.2⟩
theorem St.alloc (h : St W b t s) (o : Obj) : St (W.alloc o) b t s := h.below (al W o)
theorem St.cell (h : St W b t s) (j : Nat) : W.cell? ⟨b, j, none⟩ = (encS s)[j]? := cell_of_row W b j (encS s) _ (0, 0) h.1
theorem St.frozen (h : St W b t s) (k : Nat) : W.frozen? ⟨b, k, none⟩ = false := by simp [World.frozen?, h.1]
theorem St.cells (h : St W b t s) : W.cell? ⟨b, 0, none⟩ = some (.int .i64 s.pc) ∧ W.cell? ⟨b, 1, none⟩ = some (.int .u32 s.a) ∧ W.cell? ⟨b, 2, none⟩ = some (.int .u32 s.x) ∧ W.cell? ⟨b, 19, none⟩ = some (.bool s.en) ∧ W.cell? ⟨b, 20, none⟩ = some (.int .u32 s.an) := by
  refine ⟨?_, ?_, ?_, ?_, ?_⟩ <;> rw [h.cell, encS_get h.2] <;> simp
theorem St.mem (h : St W b t s) (k : Nat) (hk : k < 16) : W.cell? ⟨b, 3 + k, none⟩ = some (.int .u32 (R.at_ s.m k)) := by rw [h.cell, encS_mid h.2 k hk]
theorem St.set (h : St W b t s) (k : Nat) (v : Value) {u : M.S} (hu : u.m.length = 16) (hv : (encS u)[k]? = some v) (ho : ∀ j, j ≠ k → (encS u)[j]? = (encS s)[j]?) : St (W.setCell ⟨b, k, none⟩ v) b t u := by
  refine ⟨?_, hu⟩
  rw [RB.heap_setCell_same W b k v _ _ _ h.1, encS_set h.2 hu hv ho]
theorem St.setPc (h : St W b t s) (v : Int) : St (W.setCell ⟨b, 0, none⟩ (.int .i64 v)) b t { s with pc := v } :=
  h.set 0 _ h.2 (by rw [encS_get (s := { s with pc := v }) h.2]; rfl) (fun j hj => by rw [encS_get (s := { s with pc := v }) h.2, encS_get h.2, if_neg hj, if_neg hj])
theorem St.setA (h : St W b t s) (v : Int) : St (W.setCell ⟨b, 1, none⟩ (.int .u32 v)) b t { s with a := v } :=
  h.set 1 _ h.2 (by rw [encS_get (s := { s with a := v }) h.2]; rfl) (fun j hj => by rw [encS_get (s := { s with a := v }) h.2, encS_get h.2, if_neg hj, if_neg hj])
theorem St.setX (h : St W b t s) (v : Int) : St (W.setCell ⟨b, 2, none⟩ (.int .u32 v)) b t { s with x := v } :=
  h.set 2 _ h.2 (by rw [encS_get (s := { s with x := v }) h.2]; rfl) (fun j hj => by rw [encS_get (s := { s with x := v }) h.2, encS_get h.2, if_neg hj, if_neg hj])
theorem St.setEn (h : St W b t s) (v : Bool) : St (W.setCell ⟨b, 19, none⟩ (.bool v)) b t { s with en := v } :=
  h.set 19 _ h.2 (by rw [encS_get (s := { s with en := v }) h.2]; rfl) (fun j hj => by rw [encS_get (s := { s with en := v }) h.2, encS_get h.2, if_neg hj, if_neg hj])
theorem St.setAn (h : St W b t s) (v : Int) : St (W.setCell ⟨b, 20, none⟩ (.int .u32 v)) b t { s with an := v } :=
  h.set 20 _ h.2 (by rw [encS_get (s := { s with an := v }) h.2]; rfl) (fun j hj => by rw [encS_get (s := { s with an := v }) h.2, encS_get h.2, if_neg hj, if_neg hj])
theorem St.setM (h : St W b t s) (k : Nat) (hk : k < 16) (v : Int) : St (W.setCell ⟨b, 3 + k, none⟩ (.int .u32 v)) b t { s with m := s.m.set k v } := by
  have hl : (s.m.set k v).length = 16 := by rw [List.length_set]; exact h.2
  refine h.set (3 + k) _ (u := { s with m := s.m.set k v }) hl ?_ (fun j hj => ?_)
  · rw [encS_mid (s := { s with m := s.m.set k v }) hl k hk]
    unfold R.at_
    simp only
    rw [List.getD_eq_getElem?_getD, List.getElem?_set_self (by rw [h.2]; exact hk)]
    rfl
  · rw [encS_get (s := { s with m := s.m.set k v }) hl, encS_get h.2]
    unfold R.at_
    simp only
    by_cases h3 : 3 ≤ j ∧ j < 19
    · rw [List.getD_eq_getElem?_getD, List.getElem?_set_ne (by omega), ← List.getD_eq_getElem?_getD]
    · by_cases e0 : j = 0
      · simp [e0]
      · by_cases e1 : j = 1
        · simp [e1]
        · by_cases e2 : j = 2
          · simp [e2]
          · rw [if_neg e0, if_neg e1, if_neg e2, if_neg (show ¬ j < 19 by omega), if_neg e0, if_neg e1, if_neg e2, if_neg (show ¬ j < 19 by omega)]
theorem St.load (h : St W b t s) : (RB.lcf b 21).run Try.prog W = .ok (encS s) W := by
  unfold RB.lcf
  have := run_loadCells_list (P := Try.prog) W ⟨b, 0, none⟩ (encS s).toList (fun j v hv => by
    have hadd : (⟨b, 0, none⟩ : Addr).add j = ⟨b, j, none⟩ := by unfold Addr.add; split <;> simp_all
    rw [hadd, h.cell]
    simpa using hv)
  have hs : (encS s).toList.length = 21 := by rw [Array.length_toList, encS_size h.2]
  rw [hs] at this
  simpa [loadCells] using this
end
theorem encS_one (s : M.S) : (encS s).all (·.oneCell') = true := by
  rw [Array.all_eq_true_iff_forall_mem]
  intro v hv
  unfold encS at hv
  simp only [Array.mem_append] at hv
  rcases hv with h | h | h
  · simp at h; rcases h with rfl | rfl | rfl <;> rfl
  · have := RB.enc_one s.m
    rw [Array.all_eq_true_iff_forall_mem] at this
    exact this v h
  · simp at h; rcases h with rfl | rfl <;> rfl
theorem own_other {W W2 : World} {base : Nat} {e : TypeId} {size : Nat} {v : Value} {n : Nat} {xs : List Value} {b : Nat} (h : W.ownsRow base e size v n xs) (hb : b < base) (ho : ∀ b', b' ≠ b → W2.heap[b']? = W.heap[b']?) : W2.ownsRow base e size v n xs := by
  refine ⟨h.1, ?_⟩
  rcases h.2 with h1 | ⟨g, c, cur, h1, h2, h3, h4⟩
  · exact .inl h1
  · exact .inr ⟨g, c, cur, h1, h2, by rw [ho g (by omega)]; exact h3, h4⟩
def qlen : Value → Nat
  | .slice _ q _ => q
  | _ => 0
theorem own_qlen {W : World} {base : Nat} {e : TypeId} {size : Nat} {v : Value} {n : Nat} {xs : List Value} (h : W.ownsRow base e size v n xs) : qlen v = n := by
  rcases h.2 with ⟨h1, h2⟩ | ⟨g, c, cur, h1, _⟩
  · rw [h1, h2]; rfl
  · rw [h1]; rfl
theorem s0_lit : (#[.int .i64 0, .int .u32 0, .int .u32 0, .int .u32 0, .int .u32 0, .int .u32 0, .int .u32 0, .int .u32 0, .int .u32 0, .int .u32 0, .int .u32 0, .int .u32 0, .int .u32 0, .int .u32 0, .int .u32 0, .int .u32 0, .int .u32 0, .int .u32 0, .int .u32 0, .bool false, .int .u32 0] : Array Value) = encS M.s0 := rfl
end Go.Proofs.Ytfmlefadifpocaa.B
namespace Go.Proofs.Ytfmlefadifpocaa.M
/-- behind some steps: what is left to do -/
structure Left (l : List I) (r : List Int) (acc : List Nat) (m : Nat) (s : S) : Prop where
  ok : okS s
  fuel : acc.length + m = l.length
  here : s.en = true ∨ ∃ p : Nat, s.pc = p ∧ p < l.length ∧ l.length ≤ p + m ∧ s.en = false
  all : run l r = ((go l r m s).1, acc ++ (go l r m s).2)
theorem ok0 : okS s0 := ⟨⟨by decide, by decide⟩, ⟨by decide, by decide⟩, ⟨rfl, fun i => by have := R.at_zero i; unfold R.at_ at this; show 0 ≤ R.zero.getD i 0 ∧ R.zero.getD i 0 < 4294967296; rw [this]; decide⟩, ⟨by decide, by decide⟩⟩
theorem Left.start {l : List I} (r : List Int) (h : 0 < l.length) : Left l r [] l.length s0 :=
  ⟨ok0, by simp, .inr ⟨0, rfl, h, by omega, rfl⟩, rfl⟩
theorem loc_mem {l : List I} (hr : right l) {p : Nat} (hp : p < l.length) : kind l[p].1 = 4 ∨ kind l[p].1 = 6 ∨ kind l[p].1 = 8 ∨ kind l[p].1 = 9 → l[p].2.2.2 < 16 := by
  intro h
  have hw := ((right_iff l).1 hr).2.1 p hp
  rw [wrong_at hp] at hw
  have hz : loc l.length p l[p] = 0 := by simpa using hw
  generalize l[p] = x at *
  obtain ⟨c, t, f, k⟩ := x
  simp only at h ⊢
  rw [loc4 h] at hz
  unfold scE at hz
  split at hz <;> omega
theorem Left.step {l : List I} {r : List Int} {acc : List Nat} {m : Nat} {s : S} (h : Left l r acc (m + 1) s) (hr : right l) (ok : ∀ x ∈ l, okI x) (hk : R.okR r) {p : Nat} (hp : s.pc = p) (hpl : p < l.length) (he : s.en = false) (hm : l.length ≤ p + (m + 1)) : Left l r (acc ++ [p]) m (stepI l[p] r s) := by
  have hg := go_on l r m he hp hpl
  refine ⟨step_ok (ok _ (List.getElem_mem hpl)) hk h.ok (loc_mem hr hpl), by have := h.fuel; simp; omega, ?_, by rw [h.all, hg]; simp⟩
  rcases step_on hr ok r hp hpl he with ⟨h1, _⟩ | ⟨h1, q, h2, h3, h4⟩
  · exact .inl h1
  · exact .inr ⟨q, h4, h3, by omega, h1⟩
theorem Left.done {l : List I} {r : List Int} {acc : List Nat} {m : Nat} {s : S} (h : Left l r acc m s) (he : s.en = true) : run l r = (s, acc) := by
  rw [h.all, go_ended l r m he]; simp
end Go.Proofs.Ytfmlefadifpocaa.M
namespace Go.Proofs.Ytfmlefadifpocaa.B
open Go.ChangeShapes Go.WideShapes Go.ChangeAt Go.RowKit
open Go.Sort hiding Below
set_option linter.unusedVariables false

def i8s (acc : List Nat) : List Value := acc.map fun (x : Nat) => Value.int .i64 (x : Int)
theorem i8s_snoc (acc : List Nat) (p : Nat) : i8s (acc ++ [p]) = i8s acc ++ [.int .i64 (p : Int)] := by simp [i8s]
theorem i8s_get (acc : List Nat) (j : Nat) (h : j < acc.length) : (i8s acc)[j]? = some (.int .i64 (acc[j] : Int)) := by simp [i8s, h]
end Go.Proofs.Ytfmlefadifpocaa.B
