/-
  The reference's Blocks, its first half, as a walk over the Go text.
-/
import Derived.Test.YtfmlefadifpocaaJB
import Derived.Laws.CopyOwn
import Derived.Deep.RegionLaw
import Derived.Deep.AppendLies
namespace Go.Proofs.Ytfmlefadifpocaa.B
open Go.ChangeShapes Go.WideShapes Go.ChangeAt Go.RowKit
open Go.Sort hiding Below
set_option linter.unusedVariables false

def b3 (l : List M.I) (fs : List Nat) : List Value := fs.flatMap fun (f : Nat) => [.int .i64 (f : Int), .int .i64 ((M.toOf l f : Nat) : Int), .slice none 0 0]
theorem b3_snoc (l : List M.I) (fs : List Nat) (f : Nat) : b3 l (fs ++ [f]) = b3 l fs ++ [.int .i64 (f : Int), .int .i64 ((M.toOf l f : Nat) : Int), .slice none 0 0] := by
  unfold b3; rw [List.flatMap_append]; rfl
theorem b3_get (l : List M.I) : ∀ (fs : List Nat) (i : Nat) (h : i < fs.length), (b3 l fs)[i * 3]? = some (.int .i64 (fs[i] : Int)) ∧ (b3 l fs)[i * 3 + 1]? = some (.int .i64 ((M.toOf l fs[i] : Nat) : Int)) ∧ (b3 l fs)[i * 3 + 2]? = some (.slice none 0 0) := by
  intro fs
  induction fs with
  | nil => intro i h; cases h
  | cons f fs ih =>
    intro i h
    have e : b3 l (f :: fs) = [.int .i64 (f : Int), .int .i64 ((M.toOf l f : Nat) : Int), .slice none 0 0] ++ b3 l fs := rfl
    rw [e]
    cases i with
    | zero => exact ⟨rfl, rfl, rfl⟩
    | succ i =>
      have h' : i < fs.length := by simp at h; omega
      obtain ⟨a, b, c⟩ := ih i h'
      refine ⟨?_, ?_, ?_⟩
      · rw [List.getElem?_append_right (by simp; omega), show (i + 1) * 3 - [Value.int .i64 (f : Int), .int .i64 ((M.toOf l f : Nat) : Int), .slice none 0 0].length = i * 3 by simp; omega, a]; rfl
      · rw [List.getElem?_append_right (by simp; omega), show (i + 1) * 3 + 1 - [Value.int .i64 (f : Int), .int .i64 ((M.toOf l f : Nat) : Int), .slice none 0 0].length = i * 3 + 1 by simp; omega, b]; rfl
      · rw [List.getElem?_append_right (by simp; omega), show (i + 1) * 3 + 2 - [Value.int .i64 (f : Int), .int .i64 ((M.toOf l f : Nat) : Int), .slice none 0 0].length = i * 3 + 2 by simp; omega, c]
theorem own_slice {W : World} {base : Nat} {e : TypeId} {size : Nat} {v : Value} {n : Nat} {xs : List Value} (h : W.ownsRow base e size v n xs) : ∃ a c, v = .slice a n c ∧ (∀ A, a = some A → base ≤ A.block ∧ A.block < W.heap.size) := by
  rcases h.2 with ⟨h1, h2⟩ | ⟨g, c, cur, h1, h2, h3, _⟩
  · exact ⟨none, 0, by rw [h1, h2], fun A hA => by cases hA⟩
  · refine ⟨_, c, h1, fun A hA => ?_⟩
    injection hA with hA
    subst hA
    exact h.lt g (by rw [h1]; rfl)
theorem own_off {W : World} {base : Nat} {e : TypeId} {size : Nat} {a : Option Addr} {c0 n : Nat} {xs : List Value} {b k : Nat} {x : Value} (h : W.ownsRow base e size (.slice a n c0) n xs) (hne : ∀ A, a = some A → A.block ≠ b) : (W.setCell ⟨b, k, none⟩ x).ownsRow base e size (.slice a n c0) n xs := by
  refine ⟨h.1, ?_⟩
  rcases h.2 with h1 | ⟨g, c, cur, h1, h2, h3, h4⟩
  · exact .inl h1
  · have hg : g ≠ b := by
      injection h1 with h1
      exact hne _ h1
    exact .inr ⟨g, c, cur, h1, h2, by rw [Below.heap_setCell _ _ _ _ hg]; exact h3, h4⟩
def mzT (W : World) (b n : Nat) : Nat := match W.cell? ⟨b, 1, none⟩ with
  | some (.int _ p) => n - p.toNat
  | _ => 0
/-- the leaders' numbers, as they are known behind k places -/
def numV (l : List M.I) (k j : Nat) : Nat := if j < k ∧ M.lead l j = true then M.numb l j else 0
theorem numV_no {l : List M.I} {k : Nat} (h : M.lead l k = false) (j : Nat) : numV l (k + 1) j = numV l k j := by
  unfold numV
  by_cases e : j = k
  · subst e; rw [if_neg (by rw [h]; simp), if_neg (by omega)]
  · by_cases e2 : j < k ∧ M.lead l j = true
    · rw [if_pos e2, if_pos ⟨by omega, e2.2⟩]
    · rw [if_neg e2, if_neg (fun h => e2 ⟨by omega, h.2⟩)]
theorem numV_yes {l : List M.I} {k : Nat} (h : M.lead l k = true) (j : Nat) : numV l (k + 1) j = if j = k then M.numb l k else numV l k j := by
  unfold numV
  by_cases e : j = k
  · subst e; rw [if_pos ⟨by omega, h⟩, if_pos rfl]
  · rw [if_neg e]
    by_cases e2 : j < k ∧ M.lead l j = true
    · rw [if_pos e2, if_pos ⟨by omega, e2.2⟩]
    · rw [if_neg e2, if_neg (fun h => e2 ⟨by omega, h.2⟩)]
theorem numb_le (l : List M.I) (k : Nat) : M.numb l k ≤ k := by
  unfold M.numb
  have := List.length_filter_le (M.lead l) (List.range k)
  rw [List.length_range] at this
  exact this

theorem Nx.far {w w' : World} {a : Option Addr} {js : List Nat} {B : Nat} (h : Nx w a js) (hb : Below B w w') (hB : ∀ A, a = some A → A.block < B) : Nx w' a js := by
  rcases h with h | ⟨g, rfl, h1, h2⟩
  · exact .inl h
  · exact .inr ⟨g, rfl, Nat.lt_of_lt_of_le h1 hb.size, fun j hj => (hb.cell (p := ⟨g, j, none⟩) (hB ⟨g, 0, none⟩ rfl)).trans (h2 j hj)⟩
/-- block number j lies in the row at g -/
def BkOk (W : World) (g B j : Nat) (b : M.Bk) : Prop := W.cell? ⟨g, j * 3, none⟩ = some (.int .i64 (b.f : Int)) ∧ W.cell? ⟨g, j * 3 + 1, none⟩ = some (.int .i64 (b.t : Int)) ∧ W.frozen? ⟨g, j * 3 + 2, none⟩ = false ∧ ∃ a c, W.cell? ⟨g, j * 3 + 2, none⟩ = some (.slice a b.n.length c) ∧ Nx W a b.n ∧ ∀ A, a = some A → A.block < B ∧ A.block ≠ g
theorem froz_far {w w' : World} {B g k : Nat} (hb : Below B w w') (hg : g < B) (h : w.frozen? ⟨g, k, none⟩ = false) : w'.frozen? ⟨g, k, none⟩ = false := by
  have e := hb.block g hg
  unfold World.frozen? at *
  simp only at *
  rw [e]; exact h
theorem BkOk.far {W W' : World} {g B j B' : Nat} {b : M.Bk} (h : BkOk W g B j b) (hb : Below B' W W') (hg : g < B') (hB : B ≤ B') : BkOk W' g B' j b := by
  obtain ⟨h1, h2, h3, a, c, h4, h5, h6⟩ := h
  exact ⟨(hb.cell (p := ⟨g, j * 3, none⟩) hg).trans h1, (hb.cell (p := ⟨g, j * 3 + 1, none⟩) hg).trans h2, froz_far hb hg h3, a, c, (hb.cell (p := ⟨g, j * 3 + 2, none⟩) hg).trans h4, h5.far hb (fun A hA => Nat.lt_of_lt_of_le (h6 A hA).1 hB), fun A hA => ⟨Nat.lt_of_lt_of_le (h6 A hA).1 hB, (h6 A hA).2⟩⟩
theorem BkOk.off {W : World} {g B j k : Nat} {b : M.Bk} {v : Value} (h : BkOk W g B j b) (h0 : k ≠ j * 3) (h1 : k ≠ j * 3 + 1) (h2 : k ≠ j * 3 + 2) : BkOk (W.setCell ⟨g, k, none⟩ v) g B j b := by
  obtain ⟨a1, a2, a3, a, c, a4, a5, a6⟩ := h
  refine ⟨?_, ?_, ?_, a, c, ?_, a5.off (fun A hA => (a6 A hA).2), a6⟩
  · rw [World.cell?_setCell_other _ _ _ _ (by first | (simp; done) | (simp; omega))]; exact a1
  · rw [World.cell?_setCell_other _ _ _ _ (by first | (simp; done) | (simp; omega))]; exact a2
  · rw [World.frozen?_setCell]; exact a3
  · rw [World.cell?_setCell_other _ _ _ _ (by first | (simp; done) | (simp; omega))]; exact a4
def lf (l : List M.I) (j : Nat) : Nat := (M.leads l).getD j 0
theorem lf_eq {l : List M.I} {j : Nat} (h : j < (M.leads l).length) : lf l j = (M.leads l)[j] := by
  unfold lf; rw [List.getD_eq_getElem?_getD, List.getElem?_eq_getElem h]; rfl
/-- the blocks, as they are known when those behind the first i are -/
def bq (l : List M.I) (i j : Nat) : M.Bk := if j < i then M.blk l (lf l j) else ⟨lf l j, M.toOf l (lf l j), []⟩

end Go.Proofs.Ytfmlefadifpocaa.B
