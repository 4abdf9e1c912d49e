/-
  Where a block ends, and the longest way, as walks over the Go text.
-/
import Derived.Test.YtahaooghebmhnaaG8
namespace Go.Proofs.Ytahaooghebmhnaa.M
/-- the longest of the ways from the first q of some places -/
def foldZ (l : List I) (js : List Nat) (q : Nat) : Nat := (js.take q).foldl (fun m j => max m (far l j)) 0
theorem foldZ_zero (l : List I) (js : List Nat) : foldZ l js 0 = 0 := by simp [foldZ]
theorem foldZ_succ (l : List I) {js : List Nat} {q : Nat} (h : q < js.length) : foldZ l js (q + 1) = max (foldZ l js q) (far l js[q]) := by
  unfold foldZ
  rw [List.take_succ_eq_append_getElem h, List.foldl_append]
  rfl
theorem fold_one (f : Nat → Nat) : ∀ (js : List Nat) (m : Nat), js.foldl (fun m j => max m (1 + f j)) (1 + m) = 1 + js.foldl (fun m j => max m (f j)) m := by
  intro js
  induction js with
  | nil => intro m; rfl
  | cons j js ih =>
    intro m
    simp only [List.foldl_cons]
    rw [show max (1 + m) (1 + f j) = 1 + max m (f j) by omega]
    exact ih _
theorem foldZ_all (l : List I) (js : List Nat) : foldT l js js.length = foldZ l js js.length + 1 := by
  unfold foldT foldZ
  rw [List.take_length, Nat.add_comm]
  exact fold_one (far l) js 0
theorem foldZ_le (l : List I) (js : List Nat) (q : Nat) : foldZ l js q ≤ l.length := by
  unfold foldZ
  generalize js.take q = ks
  have : ∀ (ks : List Nat) (m : Nat), m ≤ l.length → ks.foldl (fun m j => max m (far l j)) m ≤ l.length := by
    intro ks
    induction ks with
    | nil => intro m h; exact h
    | cons j ks ih =>
      intro m h
      simp only [List.foldl_cons]
      have := far_len l j
      exact ih _ (by omega)
  exact this ks 0 (Nat.zero_le _)
end Go.Proofs.Ytahaooghebmhnaa.M
namespace Go.Proofs.Ytahaooghebmhnaa.B
open Go.ChangeShapes Go.WideShapes Go.ChangeAt Go.RowKit
open Go.Sort hiding Below
set_option linter.unusedVariables false

end Go.Proofs.Ytahaooghebmhnaa.B
