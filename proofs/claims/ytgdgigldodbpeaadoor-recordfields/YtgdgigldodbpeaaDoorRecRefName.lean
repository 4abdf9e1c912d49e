/-
  The fields' names by the reference, as walks over the Go text.
-/
import Derived.Test.YtgdgigldodbpeaaDoorRecNames
import Derived.Laws.BytesString
import Derived.Laws.IdiomStrings
import Derived.Laws.Concat
import Derived.Deep.AppendLies
namespace Go.Proofs.YtgdgigldodbpeaaDoor.B
open Go.ChangeShapes Go.WideShapes Go.ChangeAt Go.RowKit
set_option linter.unusedVariables false

theorem conv_one (w : World) (x : Nat) (hx : x < 256) : (convert 57 9 (.slice (some ⟨w.heap.size, 0, none⟩) 1 1)).run Tryd.prog (w.alloc (.cells #[.int .u8 (x : Int)] 5)) = .ok (.string ⟨#[UInt8.ofNat x]⟩) (w.alloc (.cells #[.int .u8 (x : Int)] 5)) := by
  rw [run_convert_bytes_string _ 57 9 5 _ _ _ Tryd.underlying57 Tryd.underlying5 Tryd.underlying9]
  have hr := run_loadCells_list (P := Tryd.prog) (w := w.alloc (.cells #[.int .u8 (x : Int)] 5)) ⟨w.heap.size, 0, none⟩ [.int .u8 (x : Int)] (World.news_of_block (fr := (0, 0)) (t := 5) (heap_alloc_new w (Obj.cells #[.int .u8 (x : Int)] 5)))
  rw [run_bytesToString _ ⟨w.heap.size, 0, none⟩ 1 1 [(x : Int)] hr]
  rfl

set_option maxRecDepth 1000000 in
theorem rname_yes (k : Nat) (hk : k < 9) (w : World) : Calls Tryd.prog 21 #[.int .i64 (k : Int)] w fun e w' => e = .returned (.string (nm k)) ∧ Below w.heap.size w w' := by
  have HB : Hid (∀ o, Below w.heap.size w (w.alloc o)) := fun o => (Below.refl _ w).alloc (Nat.le_refl _) o
  have HR : Hid (Below w.heap.size w w) := Below.refl _ _
  match k, hk with
  | 0, _ | 1, _ | 2, _ =>
    go_enter Tryd.func21, Tryd.ntmps21
    go_wp2
    go_ret
    exact ⟨rfl, HR.out⟩
  | 3, _ =>
    have hc : (convert 57 9 (.slice (some ⟨w.heap.size, 0, none⟩) 1 1)).run Tryd.prog (w.alloc (.cells #[.int .u8 48] 5)) = .ok (.string ⟨#[48]⟩) (w.alloc (.cells #[.int .u8 48] 5)) := conv_one w 48 (by omega)
    go_enter Tryd.func21, Tryd.ntmps21
    go_wp2
    go_ret
    exact ⟨rfl, HB.out _⟩
  | 4, _ =>
    have hc : (convert 57 9 (.slice (some ⟨w.heap.size, 0, none⟩) 1 1)).run Tryd.prog (w.alloc (.cells #[.int .u8 49] 5)) = .ok (.string ⟨#[49]⟩) (w.alloc (.cells #[.int .u8 49] 5)) := conv_one w 49 (by omega)
    go_enter Tryd.func21, Tryd.ntmps21
    go_wp2
    go_ret
    exact ⟨rfl, HB.out _⟩
  | 5, _ =>
    have hc : (convert 57 9 (.slice (some ⟨w.heap.size, 0, none⟩) 1 1)).run Tryd.prog (w.alloc (.cells #[.int .u8 50] 5)) = .ok (.string ⟨#[50]⟩) (w.alloc (.cells #[.int .u8 50] 5)) := conv_one w 50 (by omega)
    go_enter Tryd.func21, Tryd.ntmps21
    go_wp2
    go_ret
    exact ⟨rfl, HB.out _⟩
  | 6, _ =>
    have hc : (convert 57 9 (.slice (some ⟨w.heap.size, 0, none⟩) 1 1)).run Tryd.prog (w.alloc (.cells #[.int .u8 51] 5)) = .ok (.string ⟨#[51]⟩) (w.alloc (.cells #[.int .u8 51] 5)) := conv_one w 51 (by omega)
    go_enter Tryd.func21, Tryd.ntmps21
    go_wp2
    go_ret
    exact ⟨rfl, HB.out _⟩
  | 7, _ =>
    have hc : (convert 57 9 (.slice (some ⟨w.heap.size, 0, none⟩) 1 1)).run Tryd.prog (w.alloc (.cells #[.int .u8 52] 5)) = .ok (.string ⟨#[52]⟩) (w.alloc (.cells #[.int .u8 52] 5)) := conv_one w 52 (by omega)
    go_enter Tryd.func21, Tryd.ntmps21
    go_wp2
    go_ret
    exact ⟨rfl, HB.out _⟩
  | 8, _ =>
    have hc : (convert 57 9 (.slice (some ⟨w.heap.size, 0, none⟩) 1 1)).run Tryd.prog (w.alloc (.cells #[.int .u8 53] 5)) = .ok (.string ⟨#[53]⟩) (w.alloc (.cells #[.int .u8 53] 5)) := conv_one w 53 (by omega)
    go_enter Tryd.func21, Tryd.ntmps21
    go_wp2
    go_ret
    exact ⟨rfl, HB.out _⟩
set_option maxRecDepth 1000000 in
theorem rname_no (f : Int) (h : M.isF f = false) (w : World) : Calls Tryd.prog 21 #[.int .i64 f] w fun e w' => e = .returned (.string ByteArray.empty) ∧ w' = w := by
  have h' : ¬ (0 ≤ f ∧ f ≤ 8) := of_decide_eq_false h
  have d0 : (f == 0) = false := beq_eq_false_iff_ne.2 (by omega)
  have d1 : (f == 1) = false := beq_eq_false_iff_ne.2 (by omega)
  have d2 : (f == 2) = false := beq_eq_false_iff_ne.2 (by omega)
  by_cases h3 : f < 3
  · have d3 : decide (f < 3) = true := decide_eq_true h3
    clear h h' h3
    go_enter Tryd.func21, Tryd.ntmps21
    go_wp2
    go_ret
    exact ⟨rfl, rfl⟩
  · have d3 : decide (f < 3) = false := decide_eq_false h3
    have d8 : decide (8 < f) = true := decide_eq_true (by omega)
    clear h h' h3
    go_enter Tryd.func21, Tryd.ntmps21
    go_wp2
    go_ret
    exact ⟨rfl, rfl⟩
end Go.Proofs.YtgdgigldodbpeaaDoor.B
