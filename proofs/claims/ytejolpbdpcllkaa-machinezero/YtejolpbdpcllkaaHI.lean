/-
  A division by X that is 0, and by any other: the walk of the statement MachineZero.
-/
import Derived.Test.YtejolpbdpcllkaaHS
namespace Go.Proofs.Ytejolpbdpcllkaa.M
def qz (a x k : Int) : List I := [(0, 0, 0, a), (1, 0, 0, x), (60, 0, 0, 0), (4, 0, 0, k), (22, 0, 0, 0)]
theorem qz_right (a x k : Int) : right (qz a x k) := right_of.1 (by kernel_rfl)
theorem qz_ok {a x k : Int} (ha : w32 a) (hx : w32 x) (hk : w32 k) : ∀ i ∈ qz a x k, okI i := by
  intro i hi
  have z : (0 : Int) ≤ 0 ∧ (0 : Int) < 4294967296 := by decide
  have z8 : (0 : Int) ≤ 0 ∧ (0 : Int) < 256 := by decide
  simp only [qz, List.mem_cons, List.not_mem_nil, or_false] at hi
  rcases hi with rfl | rfl | rfl | rfl | rfl
  · exact ⟨by simp, z8, z8, ha⟩
  · exact ⟨by simp, z8, z8, hx⟩
  · exact ⟨by simp, z8, z8, z⟩
  · exact ⟨by simp, z8, z8, hk⟩
  · exact ⟨by simp, z8, z8, z⟩
theorem qz_zero (a k : Int) (r : List Int) : run (qz a 0 k) r = (⟨2, 0, 0, R.zero, true, 0⟩, [0, 1, 2]) := by
  show go (qz a 0 k) r 5 s0 = _
  rw [go_step (p := 0) (u := ⟨1, a, 0, R.zero, false, 0⟩) rfl rfl (by simp [qz]) (by kernel_rfl),
    go_step (p := 1) (u := ⟨2, a, 0, R.zero, false, 0⟩) rfl rfl (by simp [qz]) (by kernel_rfl),
    go_step (p := 2) (u := ⟨2, 0, 0, R.zero, true, 0⟩) rfl rfl (by simp [qz]) (by kernel_rfl), go_ended _ _ _ rfl]
theorem qz_other (a x k : Int) (r : List Int) (hx : x ≠ 0) : run (qz a x k) r = (⟨4, (a / x % 4294967296 + k) % 4294967296, x, R.zero, true, (a / x % 4294967296 + k) % 4294967296⟩, [0, 1, 2, 3, 4]) := by
  show go (qz a x k) r 5 s0 = _
  have h2 : stepI (60, 0, 0, 0) r ⟨2, a, x, R.zero, false, 0⟩ = ⟨3, a / x % 4294967296, x, R.zero, false, 0⟩ := by
    rw [st10 (by decide)]
    have e1 : opI (60, 0, 0, 0) = 48 := by decide
    have e2 : oth (60, 0, 0, 0) ⟨2, a, x, R.zero, false, 0⟩ = x := rfl
    rw [e1, e2, if_pos (by unfold WM.ok; simp [hx])]
    have e3 : WM.val 48 a x = a / x % 4294967296 := by unfold WM.val; simp [hx]
    rw [e3]
    rfl
  rw [go_step (p := 0) (u := ⟨1, a, 0, R.zero, false, 0⟩) rfl rfl (by simp [qz]) (by kernel_rfl),
    go_step (p := 1) (u := ⟨2, a, x, R.zero, false, 0⟩) rfl rfl (by simp [qz]) (by kernel_rfl),
    go_step (p := 2) (u := ⟨3, a / x % 4294967296, x, R.zero, false, 0⟩) rfl rfl (by simp [qz]) h2,
    go_step (p := 3) (u := ⟨4, (a / x % 4294967296 + k) % 4294967296, x, R.zero, false, 0⟩) rfl rfl (by simp [qz]) (by kernel_rfl),
    go_step (p := 4) (u := ⟨4, (a / x % 4294967296 + k) % 4294967296, x, R.zero, true, (a / x % 4294967296 + k) % 4294967296⟩) rfl rfl (by simp [qz]) (by kernel_rfl), go]
end Go.Proofs.Ytejolpbdpcllkaa.M
namespace Go.Proofs.Ytejolpbdpcllkaa.B
open Go.ChangeShapes Go.WideShapes Go.ChangeAt Go.RowKit
open Go.Sort hiding Below
set_option linter.unusedVariables false

set_option maxHeartbeats 3200000 in
set_option maxRecDepth 1000000 in
theorem zero_law (a x k : Nat) (ha : a < 4294967296) (hx : x < 4294967296) (hk : k < 4294967296) (w : World) :
    Calls Try.prog 7 #[.int .u32 (a : Int), .int .u32 (x : Int), .int .u32 (k : Int)] w fun e w' => e = .returned (.bool true) ∧ Below w.heap.size w w' := by
  have HB := hid (al w (.cells (i4s (M.qz a x k)).toArray 51))
  have HL := hid (ly_lit w (M.qz a x k) 5 rfl (by unfold maxLen; omega) (by omega))
  have okq := M.qz_ok (a := (a : Int)) (x := (x : Int)) (k := (k : Int)) ⟨by omega, by omega⟩ ⟨by omega, by omega⟩ ⟨by omega, by omega⟩
  have HC1 := hid (fun W (h : Ly W w.heap.size 0 (M.qz a x k)) => mrun_any w.heap.size 0 5 5 (M.qz a x k) R.zero rfl (by omega) okq okZ W h (M.qz_right _ _ _))
  have HC2 := hid (fun W (h : Ly W w.heap.size 0 (M.qz a x k)) => msteps_any w.heap.size 0 5 5 (M.qz a x k) R.zero rfl (by omega) okq okZ W h (M.qz_right _ _ _))
  clear okq
  by_cases hx0 : x = 0
  · subst hx0
    rw [show ((0 : Nat) : Int) = 0 from rfl] at *
    rw [M.qz_zero] at HC1 HC2
    go_enter Try.func7, Try.ntmps7
    go_wp2_with fail
    refine (HC1.out _ HL.out).mono ?_
    rintro e w1 ⟨rfl, hb⟩
    replace HB := stp HB hb
    replace HL := hid (HL.out.below hb)
    clear hb
    go_wp2_with fail
    refine (HC2.out _ HL.out).mono ?_
    rintro e w2 ⟨rfl, hb⟩
    replace HB := stp HB hb
    clear hb HL HC1 HC2
    go_wp2_with fail
    refine (awake_any _).mono ?_
    rintro e w3 ⟨rfl, hb⟩
    replace HB := stp HB hb
    clear hb
    go_wp2
    go_ret
    exact ⟨rfl, HB.out⟩
  · rw [M.qz_other (a : Int) (x : Int) (k : Int) R.zero (by omega)] at HC1 HC2
    have hxb : ((x : Int) == 0) = false := by simpa using hx0
    go_enter Try.func7, Try.ntmps7
    go_wp2_with fail
    refine (HC1.out _ HL.out).mono ?_
    rintro e w1 ⟨rfl, hb⟩
    replace HB := stp HB hb
    replace HL := hid (HL.out.below hb)
    clear hb
    go_wp2_with fail
    refine (HC2.out _ HL.out).mono ?_
    rintro e w2 ⟨rfl, hb⟩
    replace HB := stp HB hb
    clear hb HL HC1 HC2
    go_wp2_with fail
    refine (awake_any _).mono ?_
    rintro e w3 ⟨rfl, hb⟩
    replace HB := stp HB hb
    clear hb
    go_wp2
    go_ret
    exact ⟨rfl, HB.out⟩
end Go.Proofs.Ytejolpbdpcllkaa.B
