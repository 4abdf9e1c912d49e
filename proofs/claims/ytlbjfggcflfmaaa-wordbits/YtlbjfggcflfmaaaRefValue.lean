/-
  The number that a slice of bits makes, as a walk over the Go text.
-/
import Derived.Test.YtlbjfggcflfmaaaRefBits
namespace Go.Proofs.Ytlbjfggcflfmaaa.B
open Go.ChangeShapes Go.WideShapes Go.ChangeAt Go.RowKit

theorem hor_step (z : Nat → Nat) (hz : ∀ i, z i ≤ 1) (j : Nat) (hj : j ≤ 31) : ∃ m d : Nat, M.hor z (31 - j) = m ∧ z j = d ∧ M.hor z (32 - j) = 2 * m + d ∧ m ≤ 2147483647 ∧ d ≤ 1 := by
  refine ⟨_, _, rfl, rfl, ?_, ?_, hz j⟩
  · rw [show 32 - j = 31 - j + 1 by omega]
    simp only [M.hor]
    rw [show 31 - (31 - j) = j by omega]
  · have h1 := M.hor_lt z hz (31 - j)
    have h2 : 2 ^ (31 - j) ≤ 2 ^ 31 := Nat.pow_le_pow_right (by omega) (by omega)
    omega

set_option maxHeartbeats 1600000 in
theorem value_any (g cap : Nat) (z : Nat → Nat) (hz : ∀ i, z i ≤ 1) (w : World) (hc : ∀ j : Nat, j < 32 → w.cell? ⟨g, j, none⟩ = some (.int .i64 ((z j : Nat) : Int))) :
    Calls Try.prog 27 #[.slice (some ⟨g, 0, none⟩) 32 cap] w fun e w' => e = .returned (.int .u32 ((M.hor z 32 : Nat) : Int)) ∧ w' = w := by
  go_enter Try.func27, Try.ntmps27
  go_wp2
  go_loop [3, 4] (fun n i => ∃ t : Int, -1 ≤ t ∧ t ≤ 31 ∧ i = .int .i64 t ∧ n = .int .u32 ((M.hor z (31 - t).toNat : Nat) : Int)) (fun _ i => (intOf i + 1).toNat)
  case atStart => exact ⟨31, by omega, by omega, rfl, rfl⟩
  case round =>
    obtain ⟨t, ht1, ht2, rfl, rfl⟩ := hrel
    by_cases h : 0 ≤ t
    · obtain ⟨j, rfl⟩ := Int.eq_ofNat_of_zero_le h
      obtain ⟨m, d, e1, e2, e3, b1, b2⟩ := hor_step z hz j (by omega)
      have hcj := hc j (by omega)
      rw [e2] at hcj
      rw [show (31 - (j : Int)).toNat = 31 - j by omega, e1]
      have E3 : Hid (M.hor z (32 - j) = 2 * m + d) := e3
      clear e1 e2 e3 hc hz
      go_wp2
      go_round
      case rel =>
        refine ⟨(j : Int) - 1, by omega, by omega, rfl, ?_⟩
        rw [show (31 - ((j : Int) - 1)).toNat = 32 - j by omega, E3.out]
        go_num
      case measure => simp [intOf]
    · obtain rfl : t = -1 := by omega
      clear hc hz
      go_wp2
      go_ret
      exact ⟨rfl, rfl⟩
end Go.Proofs.Ytlbjfggcflfmaaa.B
