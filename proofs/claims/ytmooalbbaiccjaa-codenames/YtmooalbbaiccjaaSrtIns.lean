/-
  The library's sort by insertion, and its turning of a row end for end, as walks over the Go text.
-/
import Derived.Test.YtmooalbbaiccjaaSrtBase
namespace Go.Proofs.Ytmooalbbaiccjaa.B
open Go.ChangeShapes Go.WideShapes Go.ChangeAt Go.RowKit
open Go.Sort hiding Below
set_option linter.unusedVariables false

section
variable (lt : Int → Int → Bool)
theorem ins_go (a j : Nat) (d : Array Int) (hj : a < j) (hl : lt d[j]! d[j - 1]! = true) : insInner lt a j d = insInner lt a (j - 1) (swp d j (j - 1)) := by
  cases j with
  | zero => omega
  | succ k => simp only [Nat.add_sub_cancel] at hl ⊢; rw [insInner]; simp [hj, hl]
theorem ins_stop (a j : Nat) (d : Array Int) (h : j ≤ a ∨ lt d[j]! d[j - 1]! = false) : insInner lt a j d = d := by
  cases j with
  | zero => rw [insInner]
  | succ k =>
    simp only [Nat.add_sub_cancel] at h
    rw [insInner]
    rcases h with h | h
    · simp [show ¬ a < k + 1 by omega]
    · simp [h]
theorem outer_go (a b i : Nat) (d : Array Int) (h : i < b) : insOuter lt a b i d = insOuter lt a b (i + 1) (insInner lt a i d) := by rw [insOuter, if_pos h]
theorem outer_stop (a b i : Nat) (d : Array Int) (h : ¬ i < b) : insOuter lt a b i d = d := by rw [insOuter, if_neg h]
end

set_option maxHeartbeats 4000000 in
theorem ins_any {N n₀ b o : Nat} {w : World} (cap a c : Nat) (d : Array Int) (W : World) (h : Rw N n₀ b o w d W) (hac : a ≤ c) (hc : c ≤ N) (hN : N < 50) :
    Calls Try.prog 32 #[.slice (some ⟨b, o, none⟩) N cap, .int .i64 a, .int .i64 c] W fun e W' =>
      e = .returned (.tuple #[]) ∧ Rw N n₀ b o w (insertionSort ltInt d a c) W' := by
  go_enter Try.func32, Try.ntmps32
  go_wp2
  go_loopw [6] (fun vi wr => ∃ (i : Nat) (dk : Array Int), vi = .int .i64 i ∧ a < i ∧ i ≤ c + 1 ∧ Rw N n₀ b o w dk wr ∧ insOuter ltInt a c i dk = insOuter ltInt a c (a + 1) d) (fun vi _ => c + 1 - (nat vi).toNat)
  case atStart => exact ⟨a + 1, d, by go_num, by omega, by omega, h, rfl⟩
  case round =>
    obtain ⟨i, dk, rfl, hai, hic, hk, hO⟩ := hrel
    have HO : Hid (insOuter ltInt a c i dk = insOuter ltInt a c (a + 1) d) := hO
    have HK : Hid (Rw N n₀ b o w dk wr) := hk
    clear hO hk h
    go_wp2
    · go_loopw [7] (fun vj wr2 => ∃ (j : Nat) (dj : Array Int), vj = .int .i64 j ∧ a ≤ j ∧ j ≤ i ∧ Rw N n₀ b o w dj wr2 ∧ insInner ltInt a j dj = insInner ltInt a i dk) (fun vj _ => (nat vj).toNat)
      case atStart => exact ⟨i, dk, rfl, by omega, Nat.le_refl _, HK.out, rfl⟩
      case round =>
        obtain ⟨j, dj, rfl, haj, hji, hj, hI⟩ := hrel
        have hlt : i < c := by assumption
        obtain ⟨G, HG, hcw, hfw⟩ := hj.opn
        have HJ : Hid (Rw N n₀ b o w dj wr) := hj
        have HI : Hid (insInner ltInt a j dj = insInner ltInt a i dk) := hI
        clear hj hI HK
        have OUT : Hid ((j ≤ a ∨ ltInt dj[j]! dj[j - 1]! = false) → ∀ q, ∃ i' dk', Value.int .i64 ((i : Int) + 1) = .int .i64 (i' : Nat) ∧ a < i' ∧ i' ≤ c + 1 ∧ Rw N n₀ b o w dk' (wr.drewN q) ∧ insOuter ltInt a c i' dk' = insOuter ltInt a c (a + 1) d) := fun hs q =>
          ⟨i + 1, dj, by go_num, by omega, by omega, HJ.out.drewN q, by rw [← HO.out, outer_go _ _ _ _ _ hlt, ← HI.out, ins_stop _ _ _ _ hs]⟩
        go_wp2
        by_cases hja : a < j
        · go_quiet (first | (go_at_call 38; refine Calls.quiet_of_same (less_any _ _ _)))
          go_wp2
          · have hl : ltInt (G j) (G (j - 1)) = true := by assumption
            go_region
            all_goals go_wp2
            go_roundw
            case rel =>
              refine ⟨j - 1, swp dj j (j - 1), by congr 1; omega, by omega, by omega, ?_, ?_⟩
              · rw [HG.out, HG.out]
                exact HJ.out.swp (nq + 1) j (j - 1) (by omega) (by omega)
              · rw [← HI.out, ins_go ltInt a j dj hja (by rw [← HG.out, ← HG.out]; exact hl)]
            case measure => simp [nat]; omega
          · have hl : ltInt (G j) (G (j - 1)) = false := by assumption
            go_roundw
            case rel => exact OUT.out (Or.inr (by rw [← HG.out, ← HG.out]; exact hl)) nq
            case measure => simp [nat]; omega
        · go_quiet (first | (go_at_call 38; refine Calls.quiet_of_same (less_any _ _ _)))
          go_wp2
          go_roundw
          case rel => exact OUT.out (Or.inl (by omega)) nq
          case measure => simp [nat]; omega
    · have hge : ¬ i < c := by assumption
      go_end0
      exact ⟨rfl, by unfold insertionSort; rw [← HO.out, outer_stop _ _ _ _ _ hge]; exact HK.out⟩
end Go.Proofs.Ytmooalbbaiccjaa.B
