/-
  Whether a short row is sorted as it is, by the library, as a walk over the Go text.
-/
import Derived.Test.YtmooalbbaiccjaaSrtBase
namespace Go.Proofs.Ytmooalbbaiccjaa.B
open Go.ChangeShapes Go.WideShapes Go.ChangeAt Go.RowKit
open Go.Sort hiding Below
set_option linter.unusedVariables false

set_option maxHeartbeats 4000000 in
theorem par_any {N n₀ b o : Nat} {w : World} (cap a c : Nat) (d : Array Int) (W : World) (h : Rw N n₀ b o w d W) (hac : a < c) (hc : c ≤ N) (hN : N < 50) :
    Calls Try.prog 37 #[.slice (some ⟨b, o, none⟩) N cap, .int .i64 a, .int .i64 c] W fun e W' =>
      ∃ r : Bool, e = .returned (.bool r) ∧ (r = true → SortedIn ltInt a c d) ∧ Rw N n₀ b o w d W' := by
  go_enter Try.func37, Try.ntmps37
  go_wp2
  go_loopw [7, 8] (fun v7 v8 wr => v7 = .int .i64 ((a : Int) + 1) ∧ v8 = .int .i64 0 ∧ Rw N n₀ b o w d wr) (fun _ _ _ => 0)
  case atStart => exact ⟨rfl, rfl, h⟩
  case round =>
    obtain ⟨rfl, rfl, hr⟩ := hrel
    have HR : Hid (Rw N n₀ b o w d wr) := hr
    clear hr h
    go_wp2
    go_loopw [7] (fun v7 wr2 => ∃ i : Nat, v7 = .int .i64 (i : Int) ∧ a < i ∧ i ≤ c ∧ SortedIn ltInt a i d ∧ Rw N n₀ b o w d wr2) (fun v7 _ => c - (nat v7).toNat)
    case atStart => exact ⟨a + 1, by go_num, by omega, by omega, fun i j h1 h2 h3 => by omega, HR.out⟩
    case round =>
      obtain ⟨i, rfl, hai, hic, hs, hr⟩ := hrel
      obtain ⟨G, HG, hcw, hfw⟩ := hr.opn
      have HS : Hid (SortedIn ltInt a i d ∧ Rw N n₀ b o w d wr) := ⟨hs, hr⟩
      clear hs hr HR
      by_cases hi : i < c
      · have hiz : (i : Int) < (c : Int) := by omega
        go_wp2_with fail
        go_big_quiet (first | (go_at_call 38; refine Calls.quiet_of_same (less_any _ _ _)))
        go_wp2_with fail
        · have hl : ltInt (G i) (G (i - 1)) = false := by
            have : (!ltInt (G i) (G (i - 1))) = true := by assumption
            simpa using this
          go_roundw
          case rel => exact ⟨i + 1, by go_num, by omega, by omega, HS.out.1.snoc swo_ltInt (by rw [← HG.out, ← HG.out]; exact hl), HS.out.2.drewN nq⟩
          case measure => simp [nat]; omega
        · have e1 : ((i : Int) == (c : Int)) = false := by simp; omega
          have e2 : (c : Int) - (a : Int) < 50 := by omega
          go_wp2
          go_ret
          exact ⟨false, rfl, fun h => by simp at h, HS.out.2.drewN nq⟩
      · have hie : i = c := by omega
        subst hie
        have hiz : decide ((i : Int) < (i : Int)) = false := by simp
        go_wp2_with fail
        go_big_quiet (first | (go_at_call 38; refine Calls.quiet_of_same (less_any _ _ _)))
        go_wp2
        go_ret
        exact ⟨true, rfl, fun _ => HS.out.1, HS.out.2.drewN nq⟩
end Go.Proofs.Ytmooalbbaiccjaa.B
