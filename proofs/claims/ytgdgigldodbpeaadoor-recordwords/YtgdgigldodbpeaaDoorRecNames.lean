/-
  The fields' names, as walks over the Go text.
-/
import Derived.Test.YtgdgigldodbpeaaDoorRecCells
namespace Go.Proofs.YtgdgigldodbpeaaDoor.B
open Go.ChangeShapes Go.WideShapes Go.ChangeAt Go.RowKit
set_option linter.unusedVariables false

def nms : List ByteArray := [⟨#[110, 114]⟩, ⟨#[97, 114, 99, 104]⟩, ⟨#[105, 112]⟩, ⟨#[97, 114, 103, 48]⟩, ⟨#[97, 114, 103, 49]⟩, ⟨#[97, 114, 103, 50]⟩, ⟨#[97, 114, 103, 51]⟩, ⟨#[97, 114, 103, 52]⟩, ⟨#[97, 114, 103, 53]⟩]
def nm (k : Nat) : ByteArray := nms.getD k ByteArray.empty
def nmv : Array Value := (nms.map Value.string).toArray
theorem nmv_get (k : Nat) (h : k < 9) : nmv[k]? = some (.string (nm k)) := by
  match k, h with
  | 0, _ | 1, _ | 2, _ | 3, _ | 4, _ | 5, _ | 6, _ | 7, _ | 8, _ => rfl
/-- the names lie where the program's text lays them -/
def Nm (W : World) : Prop := ∀ k, k < 9 → W.cell? ⟨0, k, none⟩ = some (.string (nm k))
theorem Nm.below {W W' : World} {B : Nat} (h : Nm W) (hB : Below B W W') (hb : 0 < B) : Nm W' := fun k hk => by rw [hB.cell (p := ⟨0, k, none⟩) hb]; exact h k hk
theorem Nm.size {W : World} (h : Nm W) : 0 < W.heap.size := by
  have := h 0 (by omega)
  rcases Nat.eq_zero_or_pos W.heap.size with e | e
  · have : W.heap[0]? = none := Array.getElem?_eq_none (by omega)
    simp_all [World.cell?]
  · exact e
theorem Nm.load {W : World} (h : Nm W) : (lcf 0 9).run Tryd.prog W = .ok nmv W := by
  have := run_loadCells_list (P := Tryd.prog) W ⟨0, 0, none⟩ nmv.toList (fun j v hv => by
    have hadd : (⟨0, 0, none⟩ : Addr).add j = ⟨0, j, none⟩ := by unfold Addr.add; split <;> simp_all
    have hj : j < 9 := by
      have := (List.getElem?_eq_some_iff.1 hv).1
      exact this
    rw [hadd, h j hj]
    have := nmv_get j hj
    rw [← Array.getElem?_toList] at this
    exact this.symm.trans hv)
  exact this

theorem toList_inj {a b : ByteArray} (h : a.toList = b.toList) : a = b := by
  rw [ByteArray.toList_eq, ByteArray.toList_eq] at h
  exact M.bytes_ext h

set_option maxRecDepth 1000000 in
theorem name_yes (k : Nat) (hk : k < 9) (W : World) (hN : Nm W) : Calls Tryd.prog 20 #[.int .i64 (k : Int)] W fun e w' => e = .returned (.string (nm k)) ∧ w' = W := by
  have hc := hN k hk
  have hF : M.isF (k : Int) = true := decide_eq_true (by omega)
  have hlt : (k : Int) < 9 := by omega
  clear hN hk
  go_enter Tryd.func20, Tryd.ntmps20
  go_wp2_with fail
  refine (isField_any _ _).mono ?_
  rintro e w1 ⟨rfl, rfl⟩
  go_wp2
  go_ret
  exact ⟨rfl, rfl⟩
set_option maxRecDepth 1000000 in
theorem name_no (f : Int) (h : M.isF f = false) (W : World) : Calls Tryd.prog 20 #[.int .i64 f] W fun e w' => e = .returned (.string ByteArray.empty) ∧ w' = W := by
  go_enter Tryd.func20, Tryd.ntmps20
  go_wp2_with fail
  refine (isField_any _ _).mono ?_
  rintro e w1 ⟨rfl, rfl⟩
  go_wp2
  go_ret
  exact ⟨rfl, rfl⟩
set_option maxRecDepth 1000000 in
theorem find_any (s : ByteArray) (W : World) (hN : Nm W) (n : Nat) (hn : n ≤ 9) (hno : ∀ k, k < n → nm k ≠ s) (hyes : n < 9 → nm n = s) :
    Calls Tryd.prog 14 #[.string s] W fun e w' => e = .returned (.tuple #[.int .i64 (if n < 9 then (n : Int) else 0), .bool (decide (n < 9))]) ∧ w' = W := by
  have hX := lcf_eq
  have hl := hN.load
  have HN : Hid (∀ k, k < n → nm k ≠ s) := hno
  have HY : Hid (n < 9 → nm n = s) := hyes
  have HG : Hid (∀ k : Nat, k < 9 → ∀ W, (Instr.index 56 (.agg nmv) (.int .i64 (k : Int))).run Tryd.prog W = .ok (.string (nm k)) W) := fun k hk W =>
    index_cell 56 9 9 nmv _ k Tryd.underlying56 (fun w => by simp [go_sem]) (fun w => by simp [go_sem]) hk (nmv_get k hk) W
  clear hN hno hyes
  obtain ⟨V, hV⟩ : ∃ V, nmv = V := ⟨_, rfl⟩
  rw [hV] at hl HG
  clear hV
  go_enter Tryd.func14, Tryd.ntmps14
  go_wp2
  go_loopw [7] (fun i wr => ∃ k : Nat, k ≤ n ∧ i = .int .i64 k ∧ wr = W) (fun i _ => 9 - (intOf i).toNat)
  case atStart => exact ⟨0, Nat.zero_le _, rfl, rfl⟩
  case round =>
    obtain ⟨k, hk, rfl, rfl⟩ := hrel
    by_cases hkn : k < n
    · have hne := HN.out k hkn
      have hc : (s.toList == (nm k).toList) = false := beq_eq_false_iff_ne.2 fun e => hne (toList_inj e.symm)
      have hg := HG.out k (by omega)
      have hlt : (k : Int) < 9 := by omega
      have d1 : decide ((k : Int) < 9) = true := decide_eq_true (by omega)
      have HK : Hid (k < n) := hkn
      clear hne hkn hn hk
      go_wp2
      go_roundw
      case rel => exact ⟨k + 1, HK.out, by go_num, by first | rfl | trivial⟩
      case measure => simp [intOf]; omega
    · obtain rfl : k = n := by omega
      by_cases h9 : k < 9
      · have hc : (s.toList == (nm k).toList) = true := beq_iff_eq.2 (by rw [HY.out h9])
        have hg := HG.out k h9
        have hlt : (k : Int) < 9 := by omega
        have d1 : decide ((k : Int) < 9) = true := decide_eq_true (by omega)
        have HR : Hid ((if k < 9 then (k : Int) else 0) = k ∧ decide (k < 9) = true) := ⟨if_pos h9, decide_eq_true h9⟩
        clear hkn hn hk h9
        go_wp2
        go_ret2
        exact ⟨rfl, rfl⟩
      · obtain rfl : k = 9 := by omega
        clear hkn hn hk h9
        go_wp2
        go_ret2
        exact ⟨rfl, rfl⟩
end Go.Proofs.YtgdgigldodbpeaaDoor.B
