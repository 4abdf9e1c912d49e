/-
  The reference's Behind, as a walk over the Go text.
-/
import Derived.Test.YtahaooghebmhnaaG1
import Derived.Test.YtahaooghebmhnaaHR
import Derived.Test.YtahaooghebmhnaaH4
import Derived.StillTailTactics
namespace Go.Proofs.Ytahaooghebmhnaa.B
open Go.ChangeShapes Go.WideShapes Go.ChangeAt Go.RowKit
open Go.Sort hiding Below
set_option linter.unusedVariables false

theorem nx_get {w : World} {g : Nat} {js : List Nat} (h : Nx w (some ⟨g, 0, none⟩) js) (k : Nat) (hk : k < js.length) : w.cell? ⟨g, k, none⟩ = some (.int .i64 (js[k] : Int)) := by
  rcases h with h | ⟨g', e, _, h⟩
  · rw [h] at hk; simp at hk
  · injection e with e
    injection e with e
    subst e
    exact h k hk

theorem nxt_few {i : Nat} {x : M.I} (h : M.kind x.1 ≠ 12) : (M.nxt i x).length ≤ 1 := by
  unfold M.nxt
  rw [if_neg h]
  split
  · simp
  · split <;> simp
end Go.Proofs.Ytahaooghebmhnaa.B
namespace Go.Proofs.Ytahaooghebmhnaa.M
theorem intoK_le (l : List I) (k j : Nat) : intoK l k j ≤ k := by
  unfold intoK
  have := List.length_filter_le (fun i => rch l i && (beh i (at0 l i)).contains j) (List.range k)
  rw [List.length_range] at this
  exact this
/-- a place is not among those ahead of it in a rising list -/
theorem take_not {js : List Nat} (hs : js.Pairwise (· < ·)) {q : Nat} (hq : q < js.length) : js[q] ∉ js.take q := by
  intro h
  obtain ⟨i, hi, e⟩ := List.getElem_of_mem h
  rw [List.length_take] at hi
  rw [List.getElem_take] at e
  have := List.pairwise_iff_getElem.1 hs i q (by omega) hq (by omega)
  omega
theorem take_succ_mem {js : List Nat} {q j : Nat} (hq : q < js.length) : j ∈ js.take (q + 1) ↔ j ∈ js.take q ∨ j = js[q] := by
  rw [List.take_succ_eq_append_getElem hq, List.mem_append, List.mem_singleton]
theorem beh_len (i : Nat) (x : I) : (beh i x).length ≤ 2 := by
  by_cases h : kind x.1 = 12
  · rw [beh_jif h]
    split
    · simp
    · split <;> simp
  · rw [beh_not h]; exact nxt_len i x
end Go.Proofs.Ytahaooghebmhnaa.M
namespace Go.Proofs.Ytahaooghebmhnaa.B
open Go.ChangeShapes Go.WideShapes Go.ChangeAt Go.RowKit
open Go.Sort hiding Below
set_option linter.unusedVariables false

theorem infoi : (Try.prog.info? 3).map (fun i => (i.zero, i.size, i.bytes)) = some (some (.int .i64 0), 1, 8) := by kernel_rfl
end Go.Proofs.Ytahaooghebmhnaa.B
