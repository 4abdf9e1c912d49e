/-
  The reference's Leaders, as a walk over the Go text.
-/
import Derived.Test.YtahaooghebmhnaaG2
namespace Go.Proofs.Ytahaooghebmhnaa.M
/-- the leaders, as they are known behind k places -/
def leadP (l : List I) (k j : Nat) : Bool := decide (j = 0) || (decide (j < k) && decide (1 < into l j)) || jmpK l k j
def leadQ (l : List I) (k j : Nat) : Bool := leadP l k j || (decide (j = k) && decide (1 < into l k))
theorem leadP_zero (l : List I) (j : Nat) : leadP l 0 j = decide (j = 0) := by
  unfold leadP; rw [jmpK_zero]; simp
theorem leadP_succ (l : List I) (k j : Nat) : leadP l (k + 1) j = (leadQ l k j || (rch l k && isJ (at0 l k) && (beh k (at0 l k)).contains j)) := by
  unfold leadQ leadP
  rw [jmpK_succ]
  by_cases e : j = k
  · subst e
    have h1 : decide (j < j + 1) = true := decide_eq_true (by omega)
    have h2 : decide (j < j) = false := decide_eq_false (by omega)
    rw [h1, h2]
    simp [Bool.or_assoc, Bool.or_comm, Bool.or_left_comm]
  · have h1 : decide (j < k + 1) = decide (j < k) := by
      by_cases h : j < k
      · rw [decide_eq_true h, decide_eq_true (by omega)]
      · rw [decide_eq_false h, decide_eq_false (by omega)]
    rw [h1, decide_eq_false e]
    simp [Bool.or_assoc]
theorem leadP_all {l : List I} {n j : Nat} (hn : l.length = n) (hj : j < n) : leadP l n j = lead l j := by
  unfold leadP lead
  rw [decide_eq_true hj, hn]
  simp
theorem leadQ_yes {l : List I} {k : Nat} (h : 1 < into l k) (j : Nat) : leadQ l k j = if j = k then true else leadP l k j := by
  unfold leadQ
  rw [decide_eq_true h]
  by_cases e : j = k
  · simp [e]
  · simp [e]
theorem leadQ_no {l : List I} {k : Nat} (h : ¬ 1 < into l k) (j : Nat) : leadQ l k j = leadP l k j := by
  unfold leadQ
  rw [decide_eq_false h]
  simp
end Go.Proofs.Ytahaooghebmhnaa.M
namespace Go.Proofs.Ytahaooghebmhnaa.B
open Go.ChangeShapes Go.WideShapes Go.ChangeAt Go.RowKit
open Go.Sort hiding Below
set_option linter.unusedVariables false

end Go.Proofs.Ytahaooghebmhnaa.B
