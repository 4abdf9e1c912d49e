/-
  The reference's whole and Next, as walks over the Go text.
-/
import Derived.Test.YtejolpbdpcllkabHO
namespace Go.Proofs.Ytejolpbdpcllkab.B
open Go.ChangeShapes Go.WideShapes Go.ChangeAt Go.RowKit
open Go.Sort hiding Below
set_option linter.unusedVariables false

/-- the places that come behind, as a row of numbers -/
def Nx (w : World) (a : Option Addr) (js : List Nat) : Prop := js = [] ∨ ∃ g, a = some ⟨g, 0, none⟩ ∧ g < w.heap.size ∧ ∀ j (h : j < js.length), w.cell? ⟨g, j, none⟩ = some (.int .i64 (js[j] : Int))
theorem nx_new (w : World) (js : List Nat) (t : TypeId) : Nx (w.alloc (.cells (js.map (fun (x : Nat) => Value.int .i64 (x : Int))).toArray t)) (some ⟨w.heap.size, 0, none⟩) js :=
  .inr ⟨_, rfl, by simp, fun j h => by rw [cell_lit, List.getElem?_map, List.getElem?_eq_getElem h]; rfl⟩
theorem Nx.below {w w' : World} {a : Option Addr} {js : List Nat} (h : Nx w a js) (hb : Below w.heap.size w w') : Nx w' a js := by
  rcases h with h | ⟨g, e, h1, h2⟩
  · exact .inl h
  · exact .inr ⟨g, e, Nat.lt_of_lt_of_le h1 hb.size, fun j hj => (hb.cell (p := ⟨g, j, none⟩) h1).trans (h2 j hj)⟩
theorem Nx.off {w : World} {a : Option Addr} {js : List Nat} {b k : Nat} {v : Value} (h : Nx w a js) (hne : ∀ A, a = some A → A.block ≠ b) : Nx (w.setCell ⟨b, k, none⟩ v) a js := by
  rcases h with h | ⟨g, e, h1, h2⟩
  · exact .inl h
  · exact .inr ⟨g, e, by simpa using h1, fun j hj => by rw [World.cell?_setCell_far _ _ _ _ (by simpa using fun x => hne _ e x.symm)]; exact h2 j hj⟩
end Go.Proofs.Ytejolpbdpcllkab.B
namespace Go.Proofs.Ytejolpbdpcllkab.M
theorem outAt_skip {l : List I} {v : Int} {k : Nat} (hk : k < l.length) (h : ((outAt l v k).getD k false && !wrW v l[k]) = false) : outAt l v (k + 1) = outAt l v k := by
  rw [outAt]; unfold stepW
  rw [List.getElem?_eq_getElem hk]
  simp only
  rw [if_neg (by rw [h]; simp)]
theorem outAt_go {l : List I} {v : Int} {k : Nat} (hk : k < l.length) (h : ((outAt l v k).getD k false && !wrW v l[k]) = true) : outAt l v (k + 1) = setAll (outAt l v k) (nxt k l[k]) := by
  rw [outAt]; unfold stepW
  rw [List.getElem?_eq_getElem hk]
  simp only
  rw [if_pos h]
theorem nxt_len (i : Nat) (x : I) : (nxt i x).length ≤ 2 := by
  unfold nxt
  split
  · simp
  · split
    · simp
    · split <;> simp
theorem setAll_snoc (o : List Bool) (js : List Nat) (j : Nat) : setAll o (js ++ [j]) = (setAll o js).set j true := by
  unfold setAll; rw [List.foldl_append]; rfl
end Go.Proofs.Ytejolpbdpcllkab.M
namespace Go.Proofs.Ytejolpbdpcllkab.B
open Go.ChangeShapes Go.WideShapes Go.ChangeAt Go.RowKit
open Go.Sort hiding Below
set_option linter.unusedVariables false

theorem infob : (Try.prog.info? 4).map (fun i => (i.zero, i.size, i.bytes)) = some (some (.bool false), 1, 1) := by kernel_rfl
end Go.Proofs.Ytejolpbdpcllkab.B
