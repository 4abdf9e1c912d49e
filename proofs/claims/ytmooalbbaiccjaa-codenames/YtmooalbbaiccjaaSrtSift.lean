/-
  The library's turning of a row end for end, and one step of its sort by a heap, as walks over the Go text.
-/
import Derived.Test.YtmooalbbaiccjaaSrtBase
import Derived.BigRegion
import Derived.Deep.LoopGhost
namespace Go.Proofs.Ytmooalbbaiccjaa.B
open Go.ChangeShapes Go.WideShapes Go.ChangeAt Go.RowKit
open Go.Sort hiding Below
set_option linter.unusedVariables false

theorem rev_go (i j : Nat) (d : Array Int) (h : i < j) : reverseLoop i j d = reverseLoop (i + 1) (j - 1) (swp d i j) := by rw [reverseLoop, if_pos h]
theorem rev_stop (i j : Nat) (d : Array Int) (h : ¬ i < j) : reverseLoop i j d = d := by rw [reverseLoop, if_neg h]

set_option maxHeartbeats 4000000 in
theorem rev_any {N n₀ b o : Nat} {w : World} (cap a c : Nat) (d : Array Int) (W : World) (h : Rw N n₀ b o w d W) (hac : a < c) (hc : c ≤ N) (hN : N < 50) :
    Calls Try.prog 36 #[.slice (some ⟨b, o, none⟩) N cap, .int .i64 a, .int .i64 c] W fun e W' =>
      e = .returned (.tuple #[]) ∧ Rw N n₀ b o w (reverseRange d a c) W' := by
  go_enter Try.func36, Try.ntmps36
  go_wp2
  go_loopw [6, 7] (fun vi vj wr => ∃ (i j : Nat) (dk : Array Int), vi = .int .i64 i ∧ vj = .int .i64 j ∧ i ≤ N ∧ j < N ∧ Rw N n₀ b o w dk wr ∧ reverseLoop i j dk = reverseLoop a (c - 1) d) (fun vi _ _ => N + 1 - (nat vi).toNat)
  case atStart => exact ⟨a, c - 1, d, rfl, by congr 1; omega, by omega, by omega, h, rfl⟩
  case round =>
    obtain ⟨i, j, dk, rfl, rfl, hi, hj, hk, hO⟩ := hrel
    obtain ⟨G, HG, hcw, hfw⟩ := hk.opn
    have HK : Hid (Rw N n₀ b o w dk wr) := hk
    have HO : Hid (reverseLoop i j dk = reverseLoop a (c - 1) d) := hO
    clear hk hO h
    go_wp2
    · have hij : i < j := by assumption
      go_region
      all_goals go_wp2
      go_roundw
      case rel =>
        refine ⟨i + 1, j - 1, swp dk i j, by go_num, by congr 1; omega, by omega, by omega, ?_, by rw [← HO.out, rev_go _ _ _ hij]⟩
        rw [HG.out, HG.out]
        exact HK.out.swp 1 i j (by omega) (by omega)
      case measure => simp [nat]; omega
    · have hij : ¬ i < j := by assumption
      go_end0
      exact ⟨rfl, by unfold reverseRange; rw [← HO.out, rev_stop _ _ _ hij]; exact HK.out⟩

/-- The greater of what hang below root. -/
def Sel (hi first root : Nat) (d : Array Int) (c : Nat) : Prop :=
  (c = 2 * root + 2 ∧ 2 * root + 1 + 1 < hi ∧ ltInt d[first + (2 * root + 1)]! d[first + (2 * root + 2)]! = true) ∨
  (c = 2 * root + 1 ∧ (2 * root + 1 + 1 < hi → ltInt d[first + (2 * root + 1)]! d[first + (2 * root + 2)]! = false))
theorem sift_end (hi first root : Nat) (d : Array Int) (h : hi ≤ 2 * root + 1) : siftDown ltInt hi first root d = d := by rw [siftDown, dif_pos h]
theorem sift_go (hi first root c : Nat) (d : Array Int) (h : ¬ hi ≤ 2 * root + 1) (hs : Sel hi first root d c) (hl : ltInt d[first + root]! d[first + c]! = true) :
    siftDown ltInt hi first root d = siftDown ltInt hi first c (swp d (first + root) (first + c)) := by
  rw [siftDown, dif_neg h]
  rcases hs with ⟨rfl, h1, h2⟩ | ⟨rfl, h2⟩
  · rw [if_pos (by simp [h1, Nat.add_assoc, h2]), dif_pos (by omega)]; simp [hl]
  · rw [if_neg (by simp only [Bool.and_eq_true, decide_eq_true_eq, not_and, Bool.not_eq_true]; intro h3; rw [Nat.add_assoc]; exact h2 h3)]; simp [hl]
theorem sift_stop (hi first root c : Nat) (d : Array Int) (h : ¬ hi ≤ 2 * root + 1) (hs : Sel hi first root d c) (hl : ltInt d[first + root]! d[first + c]! = false) :
    siftDown ltInt hi first root d = d := by
  rw [siftDown, dif_neg h]
  rcases hs with ⟨rfl, h1, h2⟩ | ⟨rfl, h2⟩
  · rw [if_pos (by simp [h1, Nat.add_assoc, h2])]; simp [hl]
  · rw [if_neg (by simp only [Bool.and_eq_true, decide_eq_true_eq, not_and, Bool.not_eq_true]; intro h3; rw [Nat.add_assoc]; exact h2 h3)]; simp [hl]

set_option maxHeartbeats 4000000 in
theorem sift_any {N n₀ b o : Nat} {w : World} (cap lo hi first : Nat) (d : Array Int) (W : World) (h : Rw N n₀ b o w d W) (hlo : lo ≤ N) (hf : first + hi ≤ N) (hN : N < 50) :
    Calls Try.prog 43 #[.slice (some ⟨b, o, none⟩) N cap, .int .i64 lo, .int .i64 hi, .int .i64 first] W fun e W' =>
      e = .returned (.tuple #[]) ∧ Rw N n₀ b o w (siftDown ltInt hi first lo d) W' := by
  go_enter Try.func43, Try.ntmps43
  go_wp2
  go_loopw [8] (fun vr wr => ∃ (root : Nat) (dk : Array Int), vr = .int .i64 root ∧ root ≤ N ∧ Rw N n₀ b o w dk wr ∧ siftDown ltInt hi first root dk = siftDown ltInt hi first lo d) (fun vr _ => N + 1 - (nat vr).toNat)
  case atStart => exact ⟨lo, d, rfl, hlo, h, rfl⟩
  case round =>
    obtain ⟨root, dk, rfl, hr, hk, hO⟩ := hrel
    obtain ⟨G, HG, hcw, hfw⟩ := hk.opn
    have HK : Hid (Rw N n₀ b o w dk wr) := hk
    have HO : Hid (siftDown ltInt hi first root dk = siftDown ltInt hi first lo d) := hO
    clear hk hO h
    by_cases hlt : hi ≤ 2 * root + 1
    · have h0z : (hi : Int) ≤ 2 * (root : Int) + 1 := by omega
      go_wp2
      go_end0
      exact ⟨rfl, by rw [← HO.out, sift_end _ _ _ _ hlt]; exact HK.out⟩
    · have h0z : ¬ ((hi : Int) ≤ 2 * (root : Int) + 1) := by omega
      by_cases h2 : 2 * root + 1 + 1 < hi
      · have h1z : 2 * (root : Int) + 1 + 1 < (hi : Int) := by omega
        go_wp2_with fail
        go_big_quiet (first | (go_at_call 38; refine Calls.quiet_of_same (less_any _ _ _)))
        go_wp2_with fail
        · have hL : ltInt (G (first + 2 * root + 1)) (G (first + 2 * root + 2)) = true := by assumption
          have hM : ltInt dk[first + (2 * root + 1)]! dk[first + (2 * root + 2)]! = true := by rw [← HG.out, ← HG.out]; exact hL
          revert nq; intro nq1
          have hcw2 : ∀ t, t < N → (wr.drewN nq1).cell? ⟨b, o + t, none⟩ = some (.int .u16 (G t)) := hcw
          have hfw2 : ∀ t, t < N → (wr.drewN nq1).frozen? ⟨b, o + t, none⟩ = false := hfw
          have HK2 : Hid (Rw N n₀ b o w dk (wr.drewN nq1)) := HK.out.drewN nq1
          clear hcw hfw HK
          generalize wr.drewN nq1 = wr2 at hcw2 hfw2 HK2 ⊢
          go_big_quiet (first | (go_at_call 38; refine Calls.quiet_of_same (less_any _ _ _)))
          go_wp2_with fail
          · have hS : ltInt (G (first + root)) (G (first + 2 * root + 2)) = false := by
              have : (!ltInt (G (first + root)) (G (first + 2 * root + 2))) = true := by assumption
              simpa using this
            have hT : ltInt dk[first + root]! dk[first + (2 * root + 2)]! = false := by rw [← HG.out, ← HG.out]; exact hS
            (try simp only [Exit.inBlock, Exit.then]); refine bodyPost_ret (results_none rfl _ _ _) rfl ?_
            exact ⟨rfl, by rw [← HO.out, sift_stop hi first root (2 * root + 2) dk hlt (Or.inl ⟨rfl, h2, hM⟩) hT]; exact HK2.out.drewN _⟩
          · have hS : ltInt (G (first + root)) (G (first + 2 * root + 2)) = true := by
              have : (!ltInt (G (first + root)) (G (first + 2 * root + 2))) = false := by assumption
              simpa using this
            have hT : ltInt dk[first + root]! dk[first + (2 * root + 2)]! = true := by rw [← HG.out, ← HG.out]; exact hS
            have hcw3 : ∀ t, t < N → (wr2.drewN nq).cell? ⟨b, o + t, none⟩ = some (.int .u16 (G t)) := hcw2
            have hfw3 : ∀ t, t < N → (wr2.drewN nq).frozen? ⟨b, o + t, none⟩ = false := hfw2
            have HK3 : Hid (Rw N n₀ b o w dk (wr2.drewN nq)) := HK2.out.drewN nq
            clear hcw2 hfw2 HK2
            generalize wr2.drewN nq = wr3 at hcw3 hfw3 HK3 ⊢
            go_region
            go_wp2
            go_roundw
            case rel =>
              refine ⟨2 * root + 2, swp dk (first + root) (first + (2 * root + 2)), by go_num, by omega, ?_, ?_⟩
              · have := HK3.out.swp 1 (first + root) (first + (2 * root + 2)) (by omega) (by omega)
                rw [← HG.out, ← HG.out] at this
                exact this
              · rw [← HO.out, sift_go hi first root (2 * root + 2) dk hlt (Or.inl ⟨rfl, h2, hM⟩) hT]
            case measure => simp [nat]; omega
        · have hL : ltInt (G (first + 2 * root + 1)) (G (first + 2 * root + 2)) = false := by assumption
          have hM : ltInt dk[first + (2 * root + 1)]! dk[first + (2 * root + 2)]! = false := by rw [← HG.out, ← HG.out]; exact hL
          revert nq; intro nq1
          have hcw2 : ∀ t, t < N → (wr.drewN nq1).cell? ⟨b, o + t, none⟩ = some (.int .u16 (G t)) := hcw
          have hfw2 : ∀ t, t < N → (wr.drewN nq1).frozen? ⟨b, o + t, none⟩ = false := hfw
          have HK2 : Hid (Rw N n₀ b o w dk (wr.drewN nq1)) := HK.out.drewN nq1
          clear hcw hfw HK
          generalize wr.drewN nq1 = wr2 at hcw2 hfw2 HK2 ⊢
          go_big_quiet (first | (go_at_call 38; refine Calls.quiet_of_same (less_any _ _ _)))
          go_wp2_with fail
          · have hS : ltInt (G (first + root)) (G (first + 2 * root + 1)) = false := by
              have : (!ltInt (G (first + root)) (G (first + 2 * root + 1))) = true := by assumption
              simpa using this
            have hT : ltInt dk[first + root]! dk[first + (2 * root + 1)]! = false := by rw [← HG.out, ← HG.out]; exact hS
            (try simp only [Exit.inBlock, Exit.then]); refine bodyPost_ret (results_none rfl _ _ _) rfl ?_
            exact ⟨rfl, by rw [← HO.out, sift_stop hi first root (2 * root + 1) dk hlt (Or.inr ⟨rfl, fun _ => hM⟩) hT]; exact HK2.out.drewN _⟩
          · have hS : ltInt (G (first + root)) (G (first + 2 * root + 1)) = true := by
              have : (!ltInt (G (first + root)) (G (first + 2 * root + 1))) = false := by assumption
              simpa using this
            have hT : ltInt dk[first + root]! dk[first + (2 * root + 1)]! = true := by rw [← HG.out, ← HG.out]; exact hS
            have hcw3 : ∀ t, t < N → (wr2.drewN nq).cell? ⟨b, o + t, none⟩ = some (.int .u16 (G t)) := hcw2
            have hfw3 : ∀ t, t < N → (wr2.drewN nq).frozen? ⟨b, o + t, none⟩ = false := hfw2
            have HK3 : Hid (Rw N n₀ b o w dk (wr2.drewN nq)) := HK2.out.drewN nq
            clear hcw2 hfw2 HK2
            generalize wr2.drewN nq = wr3 at hcw3 hfw3 HK3 ⊢
            go_region
            go_wp2
            go_roundw
            case rel =>
              refine ⟨2 * root + 1, swp dk (first + root) (first + (2 * root + 1)), by go_num, by omega, ?_, ?_⟩
              · have := HK3.out.swp 1 (first + root) (first + (2 * root + 1)) (by omega) (by omega)
                rw [← HG.out, ← HG.out] at this
                exact this
              · rw [← HO.out, sift_go hi first root (2 * root + 1) dk hlt (Or.inr ⟨rfl, fun _ => hM⟩) hT]
            case measure => simp [nat]; omega
      · have h1z : decide (2 * (root : Int) + 1 + 1 < (hi : Int)) = false := decide_eq_false (by omega)
        go_wp2_with fail
        go_big_quiet (first | (go_at_call 38; refine Calls.quiet_of_same (less_any _ _ _)))
        go_wp2_with fail
        revert nq; intro nq1
        have hcw2 : ∀ t, t < N → (wr.drewN nq1).cell? ⟨b, o + t, none⟩ = some (.int .u16 (G t)) := hcw
        have hfw2 : ∀ t, t < N → (wr.drewN nq1).frozen? ⟨b, o + t, none⟩ = false := hfw
        have HK2 : Hid (Rw N n₀ b o w dk (wr.drewN nq1)) := HK.out.drewN nq1
        clear hcw hfw HK
        generalize wr.drewN nq1 = wr2 at hcw2 hfw2 HK2 ⊢
        go_big_quiet (first | (go_at_call 38; refine Calls.quiet_of_same (less_any _ _ _)))
        go_wp2_with fail
        · have hS : ltInt (G (first + root)) (G (first + 2 * root + 1)) = false := by
            have : (!ltInt (G (first + root)) (G (first + 2 * root + 1))) = true := by assumption
            simpa using this
          have hT : ltInt dk[first + root]! dk[first + (2 * root + 1)]! = false := by rw [← HG.out, ← HG.out]; exact hS
          (try simp only [Exit.inBlock, Exit.then]); refine bodyPost_ret (results_none rfl _ _ _) rfl ?_
          exact ⟨rfl, by rw [← HO.out, sift_stop hi first root (2 * root + 1) dk hlt (Or.inr ⟨rfl, fun h => absurd h h2⟩) hT]; exact HK2.out.drewN _⟩
        · have hS : ltInt (G (first + root)) (G (first + 2 * root + 1)) = true := by
            have : (!ltInt (G (first + root)) (G (first + 2 * root + 1))) = false := by assumption
            simpa using this
          have hT : ltInt dk[first + root]! dk[first + (2 * root + 1)]! = true := by rw [← HG.out, ← HG.out]; exact hS
          have hcw3 : ∀ t, t < N → (wr2.drewN nq).cell? ⟨b, o + t, none⟩ = some (.int .u16 (G t)) := hcw2
          have hfw3 : ∀ t, t < N → (wr2.drewN nq).frozen? ⟨b, o + t, none⟩ = false := hfw2
          have HK3 : Hid (Rw N n₀ b o w dk (wr2.drewN nq)) := HK2.out.drewN nq
          clear hcw2 hfw2 HK2
          generalize wr2.drewN nq = wr3 at hcw3 hfw3 HK3 ⊢
          go_region
          go_wp2
          go_roundw
          case rel =>
            refine ⟨2 * root + 1, swp dk (first + root) (first + (2 * root + 1)), by go_num, by omega, ?_, ?_⟩
            · have := HK3.out.swp 1 (first + root) (first + (2 * root + 1)) (by omega) (by omega)
              rw [← HG.out, ← HG.out] at this
              exact this
            · rw [← HO.out, sift_go hi first root (2 * root + 1) dk hlt (Or.inr ⟨rfl, fun h => absurd h h2⟩) hT]
          case measure => simp [nat]; omega

theorem sift_size (hi first root : Nat) (d : Array Int) : (siftDown ltInt hi first root d).size = d.size := by
  induction h : hi - root using Nat.strongRecOn generalizing root d with
  | _ n ih =>
    rw [siftDown]
    split
    · rfl
    · split
      · split
        · rfl
        · split
          · rw [ih _ (by omega) _ _ rfl, size_swp]
          · rfl
      · split
        · rfl
        · rw [ih _ (by omega) _ _ rfl, size_swp]

end Go.Proofs.Ytmooalbbaiccjaa.B
