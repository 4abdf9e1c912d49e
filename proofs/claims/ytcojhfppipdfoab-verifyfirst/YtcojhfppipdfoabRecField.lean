/-
  A record's words and fields, read, as walks over the Go text.
-/
import Derived.Test.YtcojhfppipdfoabRecBase
import Derived.Deep.RegionHeldLaw
import Derived.StillTailTactics
namespace Go.Proofs.Ytcojhfppipdfoab.RB
open Go.ChangeShapes Go.WideShapes Go.ChangeAt Go.RowKit
set_option linter.unusedVariables false

theorem below_drawn {B : Nat} {a w : World} (h : Below B a w) (n : Nat) : Below B a (w.drewN n) := ⟨h.os, h.tape, h.output, h.size, h.block⟩
theorem bkeep {W w' : World} (h : Below W.heap.size W w') : (∀ b o, b < W.heap.size → w'.cell? ⟨b, o, none⟩ = W.cell? ⟨b, o, none⟩) ∧ Below W.heap.size W w' :=
  ⟨fun b o hb => h.cell (p := ⟨b, o, none⟩) hb, h⟩

set_option maxRecDepth 1000000 in
theorem load_any (l : List Int) (ok : R.okR l) (n : Int) (h : 0 ≤ n ∧ n < 4294967296) (w : World) :
    Calls Try.prog 25 #[.agg (enc l), .int .u32 n] w fun e w' => e = .returned (.tuple #[.int .u32 (R.load l n), .bool (R.isL n)]) ∧ Below w.heap.size w w' := by
  have hB : ∀ o, Below w.heap.size w (w.alloc o) := fun o => (Below.refl _ w).alloc (Nat.le_refl _) o
  have HB : Hid (∀ o, Below w.heap.size w (w.alloc o)) := hB
  clear hB
  by_cases h4 : n % 4 = 0
  · have d4 : (n % 4 != 0) = false := by simp [h4]
    by_cases h6 : 64 ≤ n
    · have d6 : decide (64 ≤ n) = true := decide_eq_true h6
      have HP : Hid (R.load l n = 0 ∧ R.isL n = false) := by
        have : R.isL n = false := decide_eq_false (by omega)
        exact ⟨by unfold R.load; rw [this]; rfl, this⟩
      clear h6 h4
      go_enter Try.func25, Try.ntmps25
      go_wp2
      go_ret2
      exact ⟨by rw [HP.out.1, HP.out.2]; rfl, HB.out _⟩
    · have d6 : decide (64 ≤ n) = false := decide_eq_false h6
      obtain ⟨j, rfl⟩ : ∃ j : Nat, n = 4 * (j : Int) := ⟨(n / 4).toNat, by omega⟩
      have hj : j < 16 := by omega
      have HP : Hid (R.load l (4 * (j : Int)) = R.at_ l j ∧ R.isL (4 * (j : Int)) = true) := by
        have : R.isL (4 * (j : Int)) = true := decide_eq_true (by omega)
        exact ⟨by unfold R.load; rw [this, show (4 * (j : Int) / 4).toNat = j by omega]; rfl, this⟩
      have hg := enc_get ok.1 j hj
      have HL : Hid ((enc l).size = 16) := enc_size ok.1
      have e4 : 4 * (j : Int) / 4 = j := by omega
      have hlt : (j : Int) < 16 := by omega
      obtain ⟨c, hc⟩ : ∃ c, enc l = c := ⟨_, rfl⟩
      rw [hc] at hg ⊢
      clear hc h4 h6
      go_enter Try.func25, Try.ntmps25
      go_wp2
      go_ret2
      exact ⟨by rw [HP.out.1, HP.out.2]; rfl, HB.out _⟩
  · have d4 : (n % 4 != 0) = true := by simp [h4]
    have HP : Hid (R.load l n = 0 ∧ R.isL n = false) := by
      have : R.isL n = false := decide_eq_false (by omega)
      exact ⟨by unfold R.load; rw [this]; rfl, this⟩
    clear h4
    go_enter Try.func25, Try.ntmps25
    go_wp2
    go_ret2
    exact ⟨by rw [HP.out.1, HP.out.2]; rfl, HB.out _⟩

end Go.Proofs.Ytcojhfppipdfoab.RB
