/-
  The library's sort by a heap, as a walk over the Go text.
-/
import Derived.Test.YtmooalbbaiccjaaSrtSift
namespace Go.Proofs.Ytmooalbbaiccjaa.B
open Go.ChangeShapes Go.WideShapes Go.ChangeAt Go.RowKit
open Go.Sort hiding Below
set_option linter.unusedVariables false

set_option maxHeartbeats 4000000 in
theorem heap_any {N n₀ b o : Nat} {w : World} (cap a c : Nat) (d : Array Int) (W : World) (h : Rw N n₀ b o w d W) (hac : a < c) (hc : c ≤ N) (hN : N < 50) :
    Calls Try.prog 33 #[.slice (some ⟨b, o, none⟩) N cap, .int .i64 a, .int .i64 c] W fun e W' =>
      e = .returned (.tuple #[]) ∧ Rw N n₀ b o w (heapSort ltInt d a c) W' := by
  have EC : Hid (((c - a : Nat) : Int) = (c : Int) - (a : Int)) := (by omega : ((c - a : Nat) : Int) = (c : Int) - (a : Int))
  go_enter Try.func33, Try.ntmps33
  go_wp2
  go_loopg [9] ((c - a - 1) / 2 + 1) (fun k s9 wr => s9 = .int .i64 ((k : Int) - 1) ∧ k ≤ (c - a - 1) / 2 + 1 ∧ ∃ (dk : Array Int), Rw N n₀ b o w dk wr ∧ heapBuild ltInt (c - a) a k dk = heapBuild ltInt (c - a) a ((c - a - 1) / 2 + 1) d)
  case atStart => exact ⟨by congr 1; omega, Nat.le_refl _, d, h, rfl⟩
  case round =>
    obtain ⟨rfl, hkk, dk, hk, hO⟩ := hrel
    have HK : Hid (Rw N n₀ b o w dk wr) := hk
    have HO : Hid (heapBuild ltInt (c - a) a gk dk = heapBuild ltInt (c - a) a ((c - a - 1) / 2 + 1) d) := hO
    clear hk hO h
    cases gk with
    | zero =>
      go_wp2
      go_loopg [10] (c - a) (fun k s10 wr2 => s10 = .int .i64 ((k : Int) - 1) ∧ k ≤ c - a ∧ ∃ (dj : Array Int), Rw N n₀ b o w dj wr2 ∧ heapPop ltInt a k dj = heapPop ltInt a (c - a) dk)
      case atStart => exact ⟨by congr 1; omega, Nat.le_refl _, dk, HK.out, rfl⟩
      case round =>
        obtain ⟨rfl, hkj, dj, hj, hI⟩ := hrel
        have HJ : Hid (Rw N n₀ b o w dj wr) := hj
        have HI : Hid (heapPop ltInt a gk dj = heapPop ltInt a (c - a) dk) := hI
        obtain ⟨G, HG, hcw, hfw⟩ := hj.opn
        clear hj hI HK
        cases gk with
        | zero =>
          go_wp2
          go_end0
          refine ⟨rfl, ?_⟩
          have e : dj = heapSort ltInt d a c := by rw [heapSort, ← HO.out]; exact HI.out
          rw [← e]; exact HJ.out
        | succ k =>
          rcases Nat.eq_zero_or_pos k with hk0 | hkp
          · subst hk0
            go_wp2_with fail
            go_region
            go_wp2_with fail
            refine (sift_any cap 0 0 a (swp dj a (a)) _ (by have := HJ.out.swp 1 a (a) (by omega) (by omega); rw [← HG.out] at this; exact this) (by omega) (by omega) hN).mono ?_
            rintro e w1 ⟨rfl, h1⟩
            have H1 : Hid (Rw N n₀ b o w (siftDown ltInt 0 a 0 (swp dj a (a))) w1) := h1
            clear h1 hcw hfw HJ
            go_wp2
            go_roundg 0
            case measure => omega
            case rel => exact ⟨by simp, by omega, _, H1.out, HI.out⟩
          · skip
            go_wp2_with fail
            go_region
            go_wp2_with fail
            refine (sift_any cap 0 k a (swp dj a (a + k)) _ (by have := HJ.out.swp 1 a (a + k) (by omega) (by omega); rw [← HG.out, ← HG.out] at this; exact this) (by omega) (by omega) hN).mono ?_
            rintro e w1 ⟨rfl, h1⟩
            have H1 : Hid (Rw N n₀ b o w (siftDown ltInt k a 0 (swp dj a (a + k))) w1) := h1
            clear h1 hcw hfw HJ
            go_wp2
            go_roundg k
            case measure => omega
            case rel => exact ⟨by simp, by omega, _, H1.out, HI.out⟩
    | succ k =>
      have hcall := sift_any cap k (c - a) a dk wr HK.out (by omega) (by omega) hN
      rw [EC.out] at hcall
      have HC : Hid _ := hcall
      clear hcall
      go_wp2_with fail
      refine Calls.mono HC.out ?_
      rintro e w1 ⟨rfl, h1⟩
      have H1 : Hid (Rw N n₀ b o w (siftDown ltInt (c - a) a k dk) w1) := h1
      clear h1 HC HK
      go_wp2
      go_roundg k
      case measure => omega
      case rel => exact ⟨by simp, by omega, _, H1.out, HO.out⟩
end Go.Proofs.Ytmooalbbaiccjaa.B
