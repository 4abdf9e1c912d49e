/-
  Layer 11's own tools: a fact kept out of the walks' sight, chains of worlds, rows that are written, one cell in a block of its own; nodes as cells.
-/
import Derived.Test.YtkeigicobcjleabRows
import Derived.Test.YtkeigicobcjleabT1
import Derived.WalkKit
import Derived.ProofKit
import Derived.OpenShut
import Derived.WalkLawsBesides
import Derived.Outline
import Derived.Maps.Own
import Derived.Laws.StructEq
import Derived.Deep.Slices
import Derived.Carry
import Derived.Deep.RegionHeld
import Derived.Deep.AppendLies
import Derived.Deep.QuietTactic
import Derived.BigQuiet
import Derived.Lib.QuietBelow
import Derived.RangeFuncRecord
import Derived.Sort.EncStr
namespace Go.Proofs.Ytkeigicobcjleab.TB
open Go.ChangeShapes Go.WideShapes Go.ChangeAt Go.RowKit
open Go.Sort hiding Below
set_option linter.unusedVariables false
set_option maxRecDepth 100000
theorem hid {p : Prop} (h : p) : Hid p := h
theorem stp {w a b : World} (h : Hid (Below w.heap.size w a)) (h' : Below a.heap.size a b) : Hid (Below w.heap.size w b) := h.out.trans (h'.mono h.out.size)
theorem al (w : World) (o : Obj) : Below w.heap.size w (w.alloc o) := (Below.refl _ _).alloc (Nat.le_refl _) _
theorem bdrew {B : Nat} {a w : World} (h : Below B a w) (n : Nat) : Below B a (w.drewN n) := ⟨h.os, h.tape, h.output, h.size, h.block⟩
theorem dd (w : World) (a b : Nat) : (w.drewN a).drewN b = w.drewN (a + b) := by simp [World.drewN, Nat.add_assoc]
theorem froz_far {w w' : World} {B g k : Nat} (hb : Below B w w') (hg : g < B) (h : w.frozen? ⟨g, k, none⟩ = false) : w'.frozen? ⟨g, k, none⟩ = false := by
  have e := hb.block g hg
  unfold World.frozen? at *
  simp only at *
  rw [e]; exact h

/-- a row of n cells that may be read and stored into -/
structure Row (W : World) (g n : Nat) (V : Nat → Value) : Prop where
  lt : g < W.heap.size
  cell : ∀ j, j < n → W.cell? ⟨g, j, none⟩ = some (V j)
  froz : ∀ j, j < n → W.frozen? ⟨g, j, none⟩ = false
theorem Row.far {W W' : World} {g n B : Nat} {V : Nat → Value} (h : Row W g n V) (hb : Below B W W') (hg : g < B) : Row W' g n V :=
  ⟨Nat.lt_of_lt_of_le h.lt hb.size, fun j hj => (hb.cell (p := ⟨g, j, none⟩) hg).trans (h.cell j hj), fun j hj => froz_far hb hg (h.froz j hj)⟩
theorem Row.below {W W' : World} {g n : Nat} {V : Nat → Value} (h : Row W g n V) (hb : Below W.heap.size W W') : Row W' g n V := h.far hb h.lt
theorem Row.congr {W : World} {g n : Nat} {V U : Nat → Value} (h : Row W g n V) (e : ∀ j, j < n → V j = U j) : Row W g n U := ⟨h.lt, fun j hj => by rw [← e j hj]; exact h.cell j hj, h.froz⟩
theorem Row.set {W : World} {g n : Nat} {V : Nat → Value} (h : Row W g n V) (j : Nat) (hj : j < n) (v : Value) : Row (W.setCell ⟨g, j, none⟩ v) g n (fun i => if i = j then v else V i) :=
  ⟨by have := h.lt; simpa using this, fun i hi => by
    by_cases e : i = j
    · subst e; rw [if_pos rfl]; exact World.cell?_setCell_same _ _ _ (h.cell i hi)
    · rw [if_neg e, World.cell?_setCell_other _ _ _ _ (by intro x; injection x with _ x; exact e x.symm)]; exact h.cell i hi, fun i hi => by rw [World.frozen?_setCell]; exact h.froz i hi⟩
theorem Row.other {W : World} {g n : Nat} {V : Nat → Value} (h : Row W g n V) (c k : Nat) (v : Value) (hne : c ≠ g) : Row (W.setCell ⟨c, k, none⟩ v) g n V :=
  ⟨by have := h.lt; simpa using this, fun i hi => by rw [World.cell?_setCell_far _ _ _ _ (by simpa using hne)]; exact h.cell i hi, fun i hi => by rw [World.frozen?_setCell]; exact h.froz i hi⟩
theorem Row.of_own {W : World} {g n base e cap : Nat} {V : Nat → Value} {xs : List Value} (h : W.ownsRow base e 1 (.slice (some ⟨g, 0, none⟩) n cap) n xs) (hv : ∀ j, j < n → xs[j]? = some (V j)) (hg : g < W.heap.size) : Row W g n V :=
  ⟨hg, fun j hj => by rw [h.cellAt j (by omega)]; exact hv j hj, fun j _ => h.frozenAt j⟩
theorem made_get (z : Value) (n j : Nat) (h : j < n) : (madeCells #[z] n).toList[j]? = some z := by
  simp [madeCells, h, Nat.mod_one]
theorem infob : (Try.prog.info? 4).map (fun i => (i.zero, i.size, i.bytes)) = some (some (.bool false), 1, 1) := by kernel_rfl
theorem infoi : (Try.prog.info? 3).map (fun i => (i.zero, i.size, i.bytes)) = some (some (.int .i64 0), 1, 8) := by kernel_rfl
theorem infou : (Try.prog.info? 22).map (fun i => (i.zero, i.size, i.bytes)) = some (some (.int .u32 0), 1, 4) := by kernel_rfl
theorem infoU : (Try.prog.info? 60).map (fun i => (i.zero, i.size, i.bytes)) = some (some (.int .u64 0), 1, 8) := by kernel_rfl
theorem infoN : (Try.prog.info? 28).map (fun i => (i.zero, i.size, i.bytes)) = some (some (.agg #[.int .i64 0, .int .i64 0, .int .i64 0, .int .u32 0]), 4, 32) := by kernel_rfl

/-- one cell in a block of its own -/
def One (W : World) (b : Nat) (v : Value) (T : TypeId) : Prop := W.heap[b]? = some (.cells #[v] T (0, 0))
theorem One.lt {W : World} {b : Nat} {v : Value} {T : TypeId} (h : One W b v T) : b < W.heap.size := by
  rcases Nat.lt_or_ge b W.heap.size with h' | h'
  · exact h'
  · unfold One at h; rw [Array.getElem?_eq_none h'] at h; cases h
theorem One.far {W W' : World} {b B : Nat} {v : Value} {T : TypeId} (h : One W b v T) (hb : Below B W W') (hB : b < B) : One W' b v T := by
  have := hb.block b hB
  unfold One at *
  rw [this]; exact h
theorem One.below {W W' : World} {b : Nat} {v : Value} {T : TypeId} (h : One W b v T) (hb : Below W.heap.size W W') : One W' b v T := h.far hb h.lt
theorem One.cell {W : World} {b : Nat} {v : Value} {T : TypeId} (h : One W b v T) : W.cell? ⟨b, 0, none⟩ = some v := by
  unfold One at h; simp [World.cell?, h]
theorem One.froz {W : World} {b : Nat} {v : Value} {T : TypeId} (h : One W b v T) (k : Nat) : W.frozen? ⟨b, k, none⟩ = false := by
  unfold One at h; simp [World.frozen?, h]
theorem One.new (W : World) (v : Value) (T : TypeId) : One (W.alloc (.cells #[v] T)) W.heap.size v T := by
  unfold One; exact World.alloc_heap_new W _
theorem One.alloc {W : World} {b : Nat} {v : Value} {T : TypeId} (h : One W b v T) (o : Obj) : One (W.alloc o) b v T := h.below (al W o)
theorem set_cells {W : World} {b j : Nat} {cs : Array Value} {T : TypeId} {fr : Nat × Nat} (v : Value) (h : W.heap[b]? = some (.cells cs T fr)) : (W.setCell ⟨b, j, none⟩ v).heap[b]? = some (.cells (cs.setIfInBounds j v) T fr) := by
  simp [World.setCell, Array.getElem?_modify, h]
theorem One.set {W : World} {b : Nat} {v : Value} {T : TypeId} (u : Value) (h : One W b v T) : One (W.setCell ⟨b, 0, none⟩ u) b u T := set_cells _ h
theorem One.off {W : World} {b b' j : Nat} {v u : Value} {T : TypeId} (h : One W b v T) (hne : b ≠ b') : One (W.setCell ⟨b', j, none⟩ u) b v T := by
  unfold One at *
  rw [Below.heap_setCell _ _ _ _ hne]; exact h

/-- the node x lies at place j of the row that begins at b, o -/
def NodeAt (w : World) (b o j : Nat) (x : TM.N) : Prop :=
  w.cell? ⟨b, o + j * 4, none⟩ = some (.int .i64 x.1) ∧ w.cell? ⟨b, o + j * 4 + 1, none⟩ = some (.int .i64 x.2.1) ∧ w.cell? ⟨b, o + j * 4 + 2, none⟩ = some (.int .i64 x.2.2.1) ∧ w.cell? ⟨b, o + j * 4 + 3, none⟩ = some (.int .u32 x.2.2.2)
/-- the nodes of l lie at b, o, one behind the other -/
def LyN (w : World) (b o : Nat) (l : List TM.N) : Prop := b < w.heap.size ∧ ∀ j (h : j < l.length), NodeAt w b o j l[j]
/-- .. at an address that may be none, where there are none -/
def LiesN (w : World) (a : Option Addr) (l : List TM.N) : Prop := l = [] ∨ ∃ b o, a = some ⟨b, o, none⟩ ∧ LyN w b o l
theorem LyN.far {w w' : World} {b o B : Nat} {l : List TM.N} (h : LyN w b o l) (hb : Below B w w') (hB : b < B) : LyN w' b o l :=
  ⟨Nat.lt_of_lt_of_le h.1 hb.size, fun j hj => by
    obtain ⟨h0, h1, h2, h3⟩ := h.2 j hj
    exact ⟨(hb.cell hB).trans h0, (hb.cell hB).trans h1, (hb.cell hB).trans h2, (hb.cell hB).trans h3⟩⟩
theorem LyN.below {w w' : World} {b o : Nat} {l : List TM.N} (h : LyN w b o l) (hb : Below w.heap.size w w') : LyN w' b o l := h.far hb h.1
theorem LyN.lies {w : World} {b o : Nat} {l : List TM.N} (h : LyN w b o l) : LiesN w (some ⟨b, o, none⟩) l := .inr ⟨b, o, rfl, h⟩
theorem LiesN.below {w w' : World} {a : Option Addr} {l : List TM.N} (h : LiesN w a l) (hb : Below w.heap.size w w') : LiesN w' a l := by
  rcases h with h | ⟨b, o, e, h⟩
  · exact .inl h
  · exact .inr ⟨b, o, e, h.below hb⟩
theorem LiesN.far {w w' : World} {a : Option Addr} {l : List TM.N} {B : Nat} (h : LiesN w a l) (hb : Below B w w') (hB : ∀ A, a = some A → A.block < B) : LiesN w' a l := by
  rcases h with h | ⟨b, o, e, h⟩
  · exact .inl h
  · exact .inr ⟨b, o, e, h.far hb (hB _ e)⟩
theorem LiesN.ly {w : World} {a : Option Addr} {l : List TM.N} (h : LiesN w a l) (h0 : 0 < l.length) : ∃ b o, a = some ⟨b, o, none⟩ ∧ LyN w b o l := by
  rcases h with h | h
  · rw [h] at h0; simp at h0
  · exact h
/-- a node in a block of its own -/
def NAt (W : World) (b : Nat) (x : TM.N) : Prop := W.heap[b]? = some (.cells #[.int .i64 x.1, .int .i64 x.2.1, .int .i64 x.2.2.1, .int .u32 x.2.2.2] 28 (0, 0))
theorem NAt.lt {W : World} {b : Nat} {x : TM.N} (h : NAt W b x) : b < W.heap.size := by
  rcases Nat.lt_or_ge b W.heap.size with h' | h'
  · exact h'
  · unfold NAt at h; rw [Array.getElem?_eq_none h'] at h; cases h
theorem NAt.far {W W' : World} {b B : Nat} {x : TM.N} (h : NAt W b x) (hb : Below B W W') (hB : b < B) : NAt W' b x := by
  have := hb.block b hB
  unfold NAt at *
  rw [this]; exact h
theorem NAt.below {W W' : World} {b : Nat} {x : TM.N} (h : NAt W b x) (hb : Below W.heap.size W W') : NAt W' b x := h.far hb h.lt
theorem NAt.cells {W : World} {b : Nat} {x : TM.N} (h : NAt W b x) : W.cell? ⟨b, 0, none⟩ = some (.int .i64 x.1) ∧ W.cell? ⟨b, 1, none⟩ = some (.int .i64 x.2.1) ∧ W.cell? ⟨b, 2, none⟩ = some (.int .i64 x.2.2.1) ∧ W.cell? ⟨b, 3, none⟩ = some (.int .u32 x.2.2.2) ∧ ∀ j, W.frozen? ⟨b, j, none⟩ = false := by
  unfold NAt at h
  exact ⟨by simp [World.cell?, h], by simp [World.cell?, h], by simp [World.cell?, h], by simp [World.cell?, h], fun j => by simp [World.frozen?, h]⟩
theorem NAt.new (W : World) (o a b k : Int) : NAt (W.alloc (.cells #[.int .i64 o, .int .i64 a, .int .i64 b, .int .u32 k] 28)) W.heap.size (o, a, b, k) := by
  unfold NAt; exact World.alloc_heap_new W _
theorem NAt.alloc {W : World} {b : Nat} {x : TM.N} (h : NAt W b x) (o : Obj) : NAt (W.alloc o) b x := h.below (al W o)
theorem NAt.set1 {W : World} {b : Nat} {o a c k : Int} (a' : Int) (h : NAt W b (o, a, c, k)) : NAt (W.setCell ⟨b, 1, none⟩ (.int .i64 a')) b (o, a', c, k) := set_cells _ h
theorem NAt.set2 {W : World} {b : Nat} {o a c k : Int} (c' : Int) (h : NAt W b (o, a, c, k)) : NAt (W.setCell ⟨b, 2, none⟩ (.int .i64 c')) b (o, a, c', k) := set_cells _ h
theorem NAt.off {W : World} {b b' j : Nat} {x : TM.N} {v : Value} (h : NAt W b x) (hne : b ≠ b') : NAt (W.setCell ⟨b', j, none⟩ v) b x := by
  unfold NAt at *
  rw [Below.heap_setCell _ _ _ _ hne]; exact h
/-- a node as a value -/
def nv (x : TM.N) : Value := .agg #[.int .i64 x.1, .int .i64 x.2.1, .int .i64 x.2.2.1, .int .u32 x.2.2.2]
/-- nodes as cells -/
def n4s (l : List TM.N) : List Value := l.flatMap fun x => [.int .i64 x.1, .int .i64 x.2.1, .int .i64 x.2.2.1, .int .u32 x.2.2.2]
theorem n4s_len (l : List TM.N) : (n4s l).length = l.length * 4 := by
  induction l with
  | nil => rfl
  | cons a l ih => rw [show n4s (a :: l) = [.int .i64 a.1, .int .i64 a.2.1, .int .i64 a.2.2.1, .int .u32 a.2.2.2] ++ n4s l from rfl, List.length_append, ih, List.length_cons]; simp; omega
theorem n4s_append (l m : List TM.N) : n4s (l ++ m) = n4s l ++ n4s m := by simp [n4s]
theorem n4s_get (l : List TM.N) : ∀ (j q : Nat) (hj : j < l.length), q < 4 → (n4s l)[j * 4 + q]? = [Value.int .i64 l[j].1, .int .i64 l[j].2.1, .int .i64 l[j].2.2.1, .int .u32 l[j].2.2.2][q]? := by
  induction l with
  | nil => intro j q hj; simp at hj
  | cons a l ih =>
    intro j q hj hq
    rw [show n4s (a :: l) = [.int .i64 a.1, .int .i64 a.2.1, .int .i64 a.2.2.1, .int .u32 a.2.2.2] ++ n4s l from rfl]
    cases j with
    | zero =>
      rw [List.getElem?_append_left (by simp; omega), Nat.zero_mul, Nat.zero_add]; rfl
    | succ j =>
      rw [List.getElem?_append_right (by simp; omega)]
      have := ih j q (by simpa using hj) hq
      rw [show (j + 1) * 4 + q - [Value.int .i64 a.1, .int .i64 a.2.1, .int .i64 a.2.2.1, .int .u32 a.2.2.2].length = j * 4 + q by simp; omega, this]
      rfl
theorem n4s_one (l : List TM.N) : ∀ u ∈ n4s l, u.oneCell' = true := by
  intro u hu
  obtain ⟨x, _, hx⟩ := List.mem_flatMap.1 hu
  simp only [List.mem_cons, List.not_mem_nil, or_false] at hx
  rcases hx with h | h | h | h <;> subst h <;> rfl
theorem ly_of_own {w : World} {base g n cap : Nat} {l : List TM.N} (h : w.ownsRow base 28 4 (.slice (some ⟨g, 0, none⟩) n cap) n (n4s l)) (hn : l.length = n) : LyN w g 0 l := by
  refine ⟨(h.lt g rfl).2, fun j hj => ?_⟩
  have hc : ∀ q, q < 4 → w.cell? ⟨g, 0 + j * 4 + q, none⟩ = [Value.int .i64 l[j].1, .int .i64 l[j].2.1, .int .i64 l[j].2.2.1, .int .u32 l[j].2.2.2][q]? := fun q hq => by
    rw [Nat.zero_add]; exact (h.cellAt (j * 4 + q) (by omega)).trans (n4s_get l j q hj hq)
  exact ⟨hc 0 (by omega), hc 1 (by omega), hc 2 (by omega), hc 3 (by omega)⟩
theorem lies_cells {w : World} {b o : Nat} {l : List TM.N} (h : LyN w b o l) : ∀ (j : Nat) (u : Value), (n4s l)[j]? = some u → w.cell? ((⟨b, o, none⟩ : Addr).add j) = some u := by
  intro j u hu
  have hj : j < (n4s l).length := (List.getElem?_eq_some_iff.1 hu).1
  rw [n4s_len] at hj
  obtain ⟨h0, h1, h2, h3⟩ := h.2 (j / 4) (by omega)
  have hg := n4s_get l (j / 4) (j % 4) (by omega) (by omega)
  rw [show j / 4 * 4 + j % 4 = j from by omega, hu] at hg
  rw [show (⟨b, o, none⟩ : Addr).add j = ⟨b, o + j, none⟩ from by simp [Addr.add]]
  have hr : j % 4 = 0 ∨ j % 4 = 1 ∨ j % 4 = 2 ∨ j % 4 = 3 := by omega
  rcases hr with r | r | r | r <;> rw [r] at hg <;> simp at hg <;> subst hg
  · rw [show o + j = o + j / 4 * 4 from by omega]; exact h0
  · rw [show o + j = o + j / 4 * 4 + 1 from by omega]; exact h1
  · rw [show o + j = o + j / 4 * 4 + 2 from by omega]; exact h2
  · rw [show o + j = o + j / 4 * 4 + 3 from by omega]; exact h3
end Go.Proofs.Ytkeigicobcjleab.TB
