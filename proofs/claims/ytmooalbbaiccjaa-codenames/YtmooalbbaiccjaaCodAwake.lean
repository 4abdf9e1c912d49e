/-
  The answers on codes that the document fixes, as a walk over the Go text.
-/
import Derived.Test.YtmooalbbaiccjaaCodRefs
namespace Go.Proofs.Ytmooalbbaiccjaa.B
open Go.ChangeShapes Go.WideShapes Go.ChangeAt Go.RowKit Go.Maps
open Go.Sort hiding Below
set_option linter.unusedVariables false

theorem stp {w a b : World} (h : Hid (Below w.heap.size w a)) (h' : Below a.heap.size a b) : Hid (Below w.heap.size w b) := h.out.trans (h'.mono h.out.size)

set_option maxRecDepth 100000 in
set_option maxHeartbeats 8000000 in
theorem awake_any (w : World) : Calls Try.prog 11 #[] w fun e w' => e = .returned (.bool true) ∧ Below w.heap.size w w' := by
  have hf1 : M.find [106, 115, 101, 116, 120] = some 77 := by decide
  have hf2 : M.find [109, 111, 100] = none := by decide
  have hr1 : M.rdA 29 = true := by decide
  have hr2 : M.rdX 29 = true := by decide
  have hw1 : M.wrA 7 = false := by decide
  have hw2 : M.wrX 7 = true := by decide
  have hk1 : M.kind 21 = 12 := by decide
  have hk2 : M.kind 148 = 0 := by decide
  have hn1 : M.name 21 = [106, 101, 113] := by decide
  have hn2 : M.name 148 = [] := by decide
  have he1 : M.ends 22 = true := by decide
  have he2 : M.ends 5 = false := by decide
  have HB : Hid (Below w.heap.size w w) := Below.refl _ _
  go_enter Try.func11, Try.ntmps11
  go_wp2_with (first
    | (go_at_call 20; refine (find_any _ (by unfold maxLen; simp) _).mono ?_; rintro e w' ⟨rfl, hb⟩; replace HB := stp HB hb; clear hb)
    | (go_at_call 8; refine (reads_any _ _).mono ?_; rintro e w' ⟨rfl, rfl⟩)
    | (go_at_call 9; refine (writes_any _ _).mono ?_; rintro e w' ⟨rfl, rfl⟩)
    | (go_at_call 12; refine (kind_any _ _).mono ?_; rintro e w' ⟨rfl, rfl⟩)
    | (go_at_call 15; refine (ends_any _ _).mono ?_; rintro e w' ⟨rfl, rfl⟩)
    | (go_at_call 13; refine (name_any _ _).mono ?_; rintro e w' ⟨rfl, hb⟩; replace HB := stp HB hb; clear hb)
    | (go_at_call 21; refine (all_any _).mono ?_; rintro e w' ⟨g, cap, rfl, hr⟩; replace HB := stp HB hr.below; clear hr)
    | go_in)
  go_ret
  exact ⟨rfl, HB.out⟩
end Go.Proofs.Ytmooalbbaiccjaa.B
