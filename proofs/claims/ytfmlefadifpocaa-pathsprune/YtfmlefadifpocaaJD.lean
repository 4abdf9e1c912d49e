/-
  Where a block ends, and the longest way, as walks over the Go text.
-/
import Derived.Test.YtfmlefadifpocaaJC
import Derived.Maps.Own
import Derived.Maps.OwnOps
import Derived.Maps.OwnSet
import Derived.Maps.Views
namespace Go.Proofs.Ytfmlefadifpocaa.M
/-- the longest of the ways from the first q of some places -/
def foldZ (l : List I) (js : List Nat) (q : Nat) : Nat := (js.take q).foldl (fun m j => max m (far l j)) 0
theorem foldZ_zero (l : List I) (js : List Nat) : foldZ l js 0 = 0 := by simp [foldZ]
theorem foldZ_succ (l : List I) {js : List Nat} {q : Nat} (h : q < js.length) : foldZ l js (q + 1) = max (foldZ l js q) (far l js[q]) := by
  unfold foldZ
  rw [List.take_succ_eq_append_getElem h, List.foldl_append]
  rfl
theorem fold_one (f : Nat → Nat) : ∀ (js : List Nat) (m : Nat), js.foldl (fun m j => max m (1 + f j)) (1 + m) = 1 + js.foldl (fun m j => max m (f j)) m := by
  intro js
  induction js with
  | nil => intro m; rfl
  | cons j js ih =>
    intro m
    simp only [List.foldl_cons]
    rw [show max (1 + m) (1 + f j) = 1 + max m (f j) by omega]
    exact ih _
theorem foldZ_all (l : List I) (js : List Nat) : foldT l js js.length = foldZ l js js.length + 1 := by
  unfold foldT foldZ
  rw [List.take_length, Nat.add_comm]
  exact fold_one (far l) js 0
theorem foldZ_le (l : List I) (js : List Nat) (q : Nat) : foldZ l js q ≤ l.length := by
  unfold foldZ
  generalize js.take q = ks
  have : ∀ (ks : List Nat) (m : Nat), m ≤ l.length → ks.foldl (fun m j => max m (far l j)) m ≤ l.length := by
    intro ks
    induction ks with
    | nil => intro m h; exact h
    | cons j ks ih =>
      intro m h
      simp only [List.foldl_cons]
      have := far_len l j
      exact ih _ (by omega)
  exact this ks 0 (Nat.zero_le _)
end Go.Proofs.Ytfmlefadifpocaa.M
namespace Go.Proofs.Ytfmlefadifpocaa.B
open Go.ChangeShapes Go.WideShapes Go.ChangeAt Go.RowKit
open Go.Sort hiding Below
set_option linter.unusedVariables false

end Go.Proofs.Ytfmlefadifpocaa.B
namespace Go.Proofs.Ytfmlefadifpocaa.B
open Go.ChangeShapes Go.WideShapes Go.ChangeAt Go.RowKit Go.Maps
open Go.Sort hiding Below
set_option linter.unusedVariables false

theorem lawi : Keyed Try.prog 3 := int_keyed Try.underlying3
theorem zeroi (w : World) : (zeroValue 3).run Try.prog w = .ok (.int .i64 0) w := by kernel_rfl
abbrev ki (y : Nat) : Lit := .int .i64 (y : Int)
theorem wf64 {x : Int} (h0 : 0 ≤ x) (h1 : x < 100000) : (Lit.int .i64 x).wf = true := by
  simp [Lit.wf, IntKind.min, IntKind.max, IntKind.bits, IntKind.signed]; omega
theorem keyi {y : Nat} (h : y < 100000) : keyOf Try.prog 3 (.int .i64 (y : Int)) = some (ki y) := keyOf_int_mk Try.underlying3 (wf64 (by omega) (by omega))
/-- the map that holds the numbers of the leaders among the first k places -/
def Mk (W : World) (mb k : Nat) (l : List M.I) : Prop := ∃ D : DataW Unit, W.ownsMap Try.prog 3 (plainElem Try.prog 3) mb k D ∧ ∀ y, y < k → M.lead l y = true → D.atKey (ki y) (.lit (.int .i64 0)) = .lit (.int .i64 ((M.numb l y : Nat) : Int))
theorem Mk.lt {W : World} {mb k : Nat} {l : List M.I} (h : Mk W mb k l) : mb < W.heap.size := by
  obtain ⟨D, h1, _⟩ := h; exact h1.lt
theorem Mk.far {W W' : World} {mb k B : Nat} {l : List M.I} (h : Mk W mb k l) (hb : Below B W W') (hB : mb < B) : Mk W' mb k l := by
  obtain ⟨D, ⟨es, clock, hbk, F, hs, hD⟩, h2⟩ := h
  exact ⟨D, ⟨es, clock, (hb.block mb hB).trans hbk, F, hs, hD⟩, h2⟩
theorem Mk.below {W W' : World} {mb k : Nat} {l : List M.I} (h : Mk W mb k l) (hb : Below W.heap.size W W') : Mk W' mb k l := h.far hb h.lt
theorem Mk.off {W : World} {mb k g j : Nat} {l : List M.I} {v : Value} (h : Mk W mb k l) (hne : mb ≠ g) : Mk (W.setCell ⟨g, j, none⟩ v) mb k l := by
  obtain ⟨D, h1, h2⟩ := h
  exact ⟨D, h1.setCell (by exact hne) v, h2⟩
theorem Mk.skip {W : World} {mb k : Nat} {l : List M.I} (h : Mk W mb k l) (hk : M.lead l k = false) : Mk W mb (k + 1) l := by
  obtain ⟨D, h1, h2⟩ := h
  refine ⟨D, h1.mono (Nat.le_succ _), fun y hy hl => ?_⟩
  by_cases e : y = k
  · subst e; rw [hk] at hl; cases hl
  · exact h2 y (by omega) hl
theorem Mk.grown {W W' : World} {mb k : Nat} {row : Option Nat} {l : List M.I} (h : Mk W mb k l) (hg : W.grownBy W' row) (hne : some mb ≠ row) : Mk W' mb k l := by
  obtain ⟨D, h1, h2⟩ := h
  exact ⟨D, h1.kept hg hne, h2⟩
theorem mk_made (W : World) (l : List M.I) : Mk (W.alloc (.map #[] 0)) W.heap.size 0 l :=
  ⟨.map [], World.ownsMap_made _ _ _ _, fun y hy => by omega⟩
theorem mk_put {W W' : World} {mb k : Nat} {l : List M.I} {D : DataW Unit} (h : W.ownsMap Try.prog 3 (plainElem Try.prog 3) mb k D) (hD : ∀ y, y < k → M.lead l y = true → D.atKey (ki y) (.lit (.int .i64 0)) = .lit (.int .i64 ((M.numb l y : Nat) : Int)))
    (h' : W'.ownsMap Try.prog 3 (plainElem Try.prog 3) mb (k + 1) (D.put (ki k) (.lit (.int .i64 ((M.numb l k : Nat) : Int))))) : Mk W' mb (k + 1) l := by
  refine ⟨_, h', fun y hy hl => ?_⟩
  by_cases e : y = k
  · subst e; exact atKey_put_same h.isMap (by exact trivial) _ _
  · rw [atKey_put_other (by intro e2; injection e2 with _ e2; omega)]
    exact hD y (by omega) hl
theorem Row.grown {W W' : World} {g n : Nat} {V : Nat → Value} {row : Option Nat} (h : Row W g n V) (hg : W.grownBy W' row) (hne : some g ≠ row) : Row W' g n V := by
  have e := hg.block g h.lt hne
  refine ⟨Nat.lt_of_lt_of_le h.lt hg.size, fun j hj => ?_, fun j hj => ?_⟩
  · have := h.cell j hj
    unfold World.cell? at *
    simp only at *
    rw [e]; exact this
  · have := h.froz j hj
    unfold World.frozen? at *
    simp only at *
    rw [e]; exact this
theorem own_grown {W W' : World} {base : Nat} {e : TypeId} {size : Nat} {a : Option Addr} {c0 n : Nat} {xs : List Value} {row : Option Nat} (h : W.ownsRow base e size (.slice a n c0) n xs) (hg : W.grownBy W' row) (hne : ∀ A, a = some A → some A.block ≠ row) : W'.ownsRow base e size (.slice a n c0) n xs := by
  refine ⟨h.1, ?_⟩
  rcases h.2 with h1 | ⟨g, c, cur, h1, h2, h3, h4⟩
  · exact .inl h1
  · have hg' : some g ≠ row := by
      injection h1 with h1
      exact hne _ h1
    exact .inr ⟨g, c, cur, h1, h2, by rw [hg.block g (h.lt g (by rw [h1]; rfl)).2 hg']; exact h3, h4⟩
theorem BkOk.next {W W' : World} {g j : Nat} {b : M.Bk} (h : BkOk W g W.heap.size j b) (hb : Below W.heap.size W W') (hg : g < W.heap.size) : BkOk W' g W'.heap.size j b := by
  obtain ⟨x1, x2, x3, ax, cx, x4, x5, x6⟩ := h.far hb hg (Nat.le_refl _)
  exact ⟨x1, x2, x3, ax, cx, x4, x5, fun A hA => ⟨Nat.lt_of_lt_of_le (x6 A hA).1 hb.size, (x6 A hA).2⟩⟩

end Go.Proofs.Ytfmlefadifpocaa.B
namespace Go.Proofs.Ytfmlefadifpocaa.B
open Go.ChangeShapes Go.WideShapes Go.ChangeAt Go.RowKit Go.Maps
open Go.Sort hiding Below
set_option linter.unusedVariables false

end Go.Proofs.Ytfmlefadifpocaa.B
