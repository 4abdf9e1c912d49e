/-
  A row of instructions that is written; the reference's End and where a side goes, as walks over the Go text.
-/
import Derived.Test.YtfmlefadifpocaaJN
import Derived.Test.YtfmlefadifpocaaGC
import Derived.Test.YtfmlefadifpocaaJG
namespace Go.Proofs.Ytfmlefadifpocaa.M
theorem strN_more (l : List I) (f m : Nat) : ∀ (n t : Nat), strN l f m (strN l f n t) = strN l f (n + m) t := by
  intro n
  induction n with
  | zero => intro t; rw [Nat.zero_add]; rfl
  | succ n ih =>
    intro t
    by_cases h : isJa (at0 l t) = true ∧ tgt l t ≤ f + 256
    · rw [strN_go h, ih, show n + 1 + m = (n + m) + 1 by omega, strN_go h]
    · rw [strN_no h, strN_no h, strN_no h]
theorem strt_go {l : List I} {f t : Nat} (h : isJa (at0 l t) = true ∧ tgt l t ≤ f + 256) : strt l f t = strt l f (tgt l t) := by
  have hl := ja_lt h.1
  have e1 : strt l f t = strN l f (l.length - 1) (tgt l t) := by
    unfold strt
    rw [show l.length = (l.length - 1) + 1 by omega, strN_go h, Nat.add_sub_cancel]
  have e2 : strt l f (tgt l t) = strN l f 1 (strt l f t) := by
    rw [e1, strN_more]
    unfold strt
    rw [show l.length - 1 + 1 = l.length by omega]
  rw [e2, strN_no (strt_stop l f t)]
theorem strt_no {l : List I} {f t : Nat} (h : ¬ (isJa (at0 l t) = true ∧ tgt l t ≤ f + 256)) : strt l f t = t := strN_no h _
end Go.Proofs.Ytfmlefadifpocaa.M
namespace Go.Proofs.Ytfmlefadifpocaa.B
open Go.ChangeShapes Go.WideShapes Go.ChangeAt Go.RowKit
open Go.Sort hiding Below
set_option linter.unusedVariables false

/-- a row of instructions in a block of its own, that may be written -/
structure Ro (W : World) (g n : Nat) (X : Nat → M.I) : Prop where
  lt : g < W.heap.size
  c0 : ∀ j, j < n → W.cell? ⟨g, j * 4, none⟩ = some (.int .u16 (X j).1)
  c1 : ∀ j, j < n → W.cell? ⟨g, j * 4 + 1, none⟩ = some (.int .u8 (X j).2.1)
  c2 : ∀ j, j < n → W.cell? ⟨g, j * 4 + 2, none⟩ = some (.int .u8 (X j).2.2.1)
  c3 : ∀ j, j < n → W.cell? ⟨g, j * 4 + 3, none⟩ = some (.int .u32 (X j).2.2.2)
  fz : ∀ k, W.frozen? ⟨g, k, none⟩ = false
theorem Ro.far {W W' : World} {g n B : Nat} {X : Nat → M.I} (h : Ro W g n X) (hb : Below B W W') (hg : g < B) : Ro W' g n X :=
  ⟨Nat.lt_of_lt_of_le h.lt hb.size, fun j hj => (hb.cell (p := ⟨g, j * 4, none⟩) hg).trans (h.c0 j hj), fun j hj => (hb.cell (p := ⟨g, j * 4 + 1, none⟩) hg).trans (h.c1 j hj), fun j hj => (hb.cell (p := ⟨g, j * 4 + 2, none⟩) hg).trans (h.c2 j hj), fun j hj => (hb.cell (p := ⟨g, j * 4 + 3, none⟩) hg).trans (h.c3 j hj), fun k => froz_far hb hg (h.fz k)⟩
theorem Ro.below {W W' : World} {g n : Nat} {X : Nat → M.I} (h : Ro W g n X) (hb : Below W.heap.size W W') : Ro W' g n X := h.far hb h.lt
theorem Ro.congr {W : World} {g n : Nat} {X Y : Nat → M.I} (h : Ro W g n X) (e : ∀ j, j < n → X j = Y j) : Ro W g n Y :=
  ⟨h.lt, fun j hj => by rw [← e j hj]; exact h.c0 j hj, fun j hj => by rw [← e j hj]; exact h.c1 j hj, fun j hj => by rw [← e j hj]; exact h.c2 j hj, fun j hj => by rw [← e j hj]; exact h.c3 j hj, h.fz⟩
theorem Ro.off {W : World} {g n b k : Nat} {X : Nat → M.I} {v : Value} (h : Ro W g n X) (hne : b ≠ g) : Ro (W.setCell ⟨b, k, none⟩ v) g n X :=
  ⟨by simpa using h.lt, fun j hj => by rw [World.cell?_setCell_far _ _ _ _ (by simpa using fun e => hne e)]; exact h.c0 j hj, fun j hj => by rw [World.cell?_setCell_far _ _ _ _ (by simpa using fun e => hne e)]; exact h.c1 j hj, fun j hj => by rw [World.cell?_setCell_far _ _ _ _ (by simpa using fun e => hne e)]; exact h.c2 j hj, fun j hj => by rw [World.cell?_setCell_far _ _ _ _ (by simpa using fun e => hne e)]; exact h.c3 j hj, fun k => by rw [World.frozen?_setCell]; exact h.fz k⟩
theorem Ro.ly {W : World} {g n : Nat} {X : Nat → M.I} {L : List M.I} (h : Ro W g n X) (hn : L.length = n) (e : ∀ j (hj : j < L.length), L[j] = X j) : Ly W g 0 L :=
  ⟨h.lt, fun j hj => by
    rw [e j hj]
    have hj' : j < n := by omega
    exact ⟨by rw [Nat.zero_add]; exact h.c0 j hj', by rw [Nat.zero_add]; exact h.c1 j hj', by rw [Nat.zero_add]; exact h.c2 j hj', by rw [Nat.zero_add]; exact h.c3 j hj'⟩⟩
theorem Ro.setK {W : World} {g n : Nat} {X : Nat → M.I} (h : Ro W g n X) (i : Nat) (hi : i < n) (v : Int) : Ro (W.setCell ⟨g, i * 4 + 3, none⟩ (.int .u32 v)) g n (fun j => if j = i then ((X i).1, (X i).2.1, (X i).2.2.1, v) else X j) := by
  refine ⟨by simpa using h.lt, fun j hj => ?_, fun j hj => ?_, fun j hj => ?_, fun j hj => ?_, fun k => by rw [World.frozen?_setCell]; exact h.fz k⟩
  · rw [World.cell?_setCell_other _ _ _ _ (by intro e; injection e with _ e; omega), h.c0 j hj]
    by_cases e : j = i
    · subst e; rw [if_pos rfl]
    · rw [if_neg e]
  · rw [World.cell?_setCell_other _ _ _ _ (by intro e; injection e with _ e; omega), h.c1 j hj]
    by_cases e : j = i
    · subst e; rw [if_pos rfl]
    · rw [if_neg e]
  · rw [World.cell?_setCell_other _ _ _ _ (by intro e; injection e with _ e; omega), h.c2 j hj]
    by_cases e : j = i
    · subst e; rw [if_pos rfl]
    · rw [if_neg e]
  · by_cases e : j = i
    · subst e; rw [if_pos rfl, World.cell?_setCell_same _ _ _ (h.c3 j hj)]
    · rw [if_neg e, World.cell?_setCell_other _ _ _ _ (by intro e2; injection e2 with _ e2; omega)]; exact h.c3 j hj
theorem Ro.setT {W : World} {g n : Nat} {X : Nat → M.I} (h : Ro W g n X) (i : Nat) (hi : i < n) (v : Int) : Ro (W.setCell ⟨g, i * 4 + 1, none⟩ (.int .u8 v)) g n (fun j => if j = i then ((X i).1, v, (X i).2.2.1, (X i).2.2.2) else X j) := by
  refine ⟨by simpa using h.lt, fun j hj => ?_, fun j hj => ?_, fun j hj => ?_, fun j hj => ?_, fun k => by rw [World.frozen?_setCell]; exact h.fz k⟩
  · rw [World.cell?_setCell_other _ _ _ _ (by intro e; injection e with _ e; omega), h.c0 j hj]
    by_cases e : j = i
    · subst e; rw [if_pos rfl]
    · rw [if_neg e]
  · by_cases e : j = i
    · subst e; rw [if_pos rfl, World.cell?_setCell_same _ _ _ (h.c1 j hj)]
    · rw [if_neg e, World.cell?_setCell_other _ _ _ _ (by intro e2; injection e2 with _ e2; omega)]; exact h.c1 j hj
  · rw [World.cell?_setCell_other _ _ _ _ (by intro e; injection e with _ e; omega), h.c2 j hj]
    by_cases e : j = i
    · subst e; rw [if_pos rfl]
    · rw [if_neg e]
  · rw [World.cell?_setCell_other _ _ _ _ (by intro e; injection e with _ e; omega), h.c3 j hj]
    by_cases e : j = i
    · subst e; rw [if_pos rfl]
    · rw [if_neg e]
theorem Ro.setF {W : World} {g n : Nat} {X : Nat → M.I} (h : Ro W g n X) (i : Nat) (hi : i < n) (v : Int) : Ro (W.setCell ⟨g, i * 4 + 2, none⟩ (.int .u8 v)) g n (fun j => if j = i then ((X i).1, (X i).2.1, v, (X i).2.2.2) else X j) := by
  refine ⟨by simpa using h.lt, fun j hj => ?_, fun j hj => ?_, fun j hj => ?_, fun j hj => ?_, fun k => by rw [World.frozen?_setCell]; exact h.fz k⟩
  · rw [World.cell?_setCell_other _ _ _ _ (by intro e; injection e with _ e; omega), h.c0 j hj]
    by_cases e : j = i
    · subst e; rw [if_pos rfl]
    · rw [if_neg e]
  · rw [World.cell?_setCell_other _ _ _ _ (by intro e; injection e with _ e; omega), h.c1 j hj]
    by_cases e : j = i
    · subst e; rw [if_pos rfl]
    · rw [if_neg e]
  · by_cases e : j = i
    · subst e; rw [if_pos rfl, World.cell?_setCell_same _ _ _ (h.c2 j hj)]
    · rw [if_neg e, World.cell?_setCell_other _ _ _ _ (by intro e2; injection e2 with _ e2; omega)]; exact h.c2 j hj
  · rw [World.cell?_setCell_other _ _ _ _ (by intro e; injection e with _ e; omega), h.c3 j hj]
    by_cases e : j = i
    · subst e; rw [if_pos rfl]
    · rw [if_neg e]

end Go.Proofs.Ytfmlefadifpocaa.B
namespace Go.Proofs.Ytfmlefadifpocaa.B
open Go.ChangeShapes Go.WideShapes Go.ChangeAt Go.RowKit
open Go.Sort hiding Below
set_option linter.unusedVariables false

theorem Ro.of_own {W : World} {base g n cap : Nat} {l : List M.I} (h : W.ownsRow base 38 4 (.slice (some ⟨g, 0, none⟩) n cap) n (i4s l)) (hn : l.length = n) : Ro W g n (M.at0 l) := by
  have hc : ∀ j q, j < n → q < 4 → ∀ hj : j < l.length, W.cell? ⟨g, j * 4 + q, none⟩ = [Value.int .u16 l[j].1, .int .u8 l[j].2.1, .int .u8 l[j].2.2.1, .int .u32 l[j].2.2.2][q]? := fun j q h1 h2 hj => (h.cellAt (j * 4 + q) (by omega)).trans (i4s_get l j q hj h2)
  refine ⟨(h.lt g rfl).2, fun j hj => ?_, fun j hj => ?_, fun j hj => ?_, fun j hj => ?_, fun k => h.frozenAt k⟩
  · have hjl : j < l.length := by omega
    rw [M.at0_eq hjl]; exact hc j 0 hj (by omega) hjl
  · have hjl : j < l.length := by omega
    rw [M.at0_eq hjl]; exact hc j 1 hj (by omega) hjl
  · have hjl : j < l.length := by omega
    rw [M.at0_eq hjl]; exact hc j 2 hj (by omega) hjl
  · have hjl : j < l.length := by omega
    rw [M.at0_eq hjl]; exact hc j 3 hj (by omega) hjl
/-- the row, as it is behind the first k places -/
def stX (l : List M.I) (k j : Nat) : M.I := if j < k then M.strI l j else M.at0 l j
theorem stX_zero (l : List M.I) (j : Nat) : stX l 0 j = M.at0 l j := by unfold stX; rw [if_neg (by omega)]
theorem stX_at (l : List M.I) (k : Nat) : stX l k k = M.at0 l k := by unfold stX; rw [if_neg (by omega)]
theorem stX_succ (l : List M.I) (k j : Nat) : stX l (k + 1) j = if j = k then M.strI l k else stX l k j := by
  unfold stX
  by_cases e : j = k
  · subst e; rw [if_pos (by omega), if_pos rfl]
  · rw [if_neg e]
    by_cases e2 : j < k
    · rw [if_pos e2, if_pos (by omega)]
    · rw [if_neg e2, if_neg (by omega)]

end Go.Proofs.Ytfmlefadifpocaa.B
namespace Go.Proofs.Ytfmlefadifpocaa.M
/-- is one of those behind it, ahead of q, needed? -/
def anN (s : List I) (k q : Nat) : Bool := (List.range q).any fun j => decide (k < j) && nd s j
theorem anN_start (s : List I) (k : Nat) : anN s k (k + 1) = false := by
  unfold anN
  rw [List.any_eq_false]
  intro j hj
  have := List.mem_range.1 hj
  rw [decide_eq_false (by omega)]; simp
theorem anN_succ (s : List I) {k q : Nat} (h : k < q) : anN s k (q + 1) = (anN s k q || nd s q) := by
  unfold anN
  rw [List.range_succ, List.any_append]
  simp [h]
theorem nd_rch {s : List I} {i : Nat} (h : rch s i = false) : nd s i = false := by rw [nd_eq, h]; rfl
theorem nd_not {s : List I} {i : Nat} (h : isJa (at0 s i) = false) : nd s i = rch s i := by rw [nd_eq, h]; simp
theorem nd_ja {s : List I} {i : Nat} (h1 : rch s i = true) (h : isJa (at0 s i) = true) : nd s i = anN s i (tgt s i) := by rw [nd_eq, h, h1]; simp [anN]
end Go.Proofs.Ytfmlefadifpocaa.M
namespace Go.Proofs.Ytfmlefadifpocaa.B
open Go.ChangeShapes Go.WideShapes Go.ChangeAt Go.RowKit
open Go.Sort hiding Below
set_option linter.unusedVariables false

theorem Ro.str {W : World} {g n : Nat} {l : List M.I} (h : Ro W g n (M.strI l)) (hn : l.length = n) : Ly W g 0 (M.strL l) :=
  h.ly (by rw [M.strL_len]; exact hn) fun j hj => by
    rw [← M.at0_eq hj, M.strL_at (by rw [M.strL_len] at hj; exact hj)]

end Go.Proofs.Ytfmlefadifpocaa.B
