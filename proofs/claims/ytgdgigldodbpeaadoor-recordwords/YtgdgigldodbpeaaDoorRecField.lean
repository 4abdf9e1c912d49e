/-
  A record's words and fields, read, as walks over the Go text.
-/
import Derived.Test.YtgdgigldodbpeaaDoorRecBase
import Derived.Deep.RegionHeldLaw
import Derived.StillTailTactics
namespace Go.Proofs.YtgdgigldodbpeaaDoor.B
open Go.ChangeShapes Go.WideShapes Go.ChangeAt Go.RowKit
set_option linter.unusedVariables false

theorem below_drawn {B : Nat} {a w : World} (h : Below B a w) (n : Nat) : Below B a (w.drewN n) := ⟨h.os, h.tape, h.output, h.size, h.block⟩
theorem bkeep {W w' : World} (h : Below W.heap.size W w') : (∀ b o, b < W.heap.size → w'.cell? ⟨b, o, none⟩ = W.cell? ⟨b, o, none⟩) ∧ Below W.heap.size W w' :=
  ⟨fun b o hb => h.cell (p := ⟨b, o, none⟩) hb, h⟩

set_option maxRecDepth 1000000 in
theorem load_any (l : List Int) (ok : M.okR l) (n : Int) (h : 0 ≤ n ∧ n < 4294967296) (w : World) :
    Calls Tryd.prog 9 #[.agg (enc l), .int .u32 n] w fun e w' => e = .returned (.tuple #[.int .u32 (M.load l n), .bool (M.isL n)]) ∧ Below w.heap.size w w' := by
  have hB : ∀ o, Below w.heap.size w (w.alloc o) := fun o => (Below.refl _ w).alloc (Nat.le_refl _) o
  have HB : Hid (∀ o, Below w.heap.size w (w.alloc o)) := hB
  clear hB
  by_cases h4 : n % 4 = 0
  · have d4 : (n % 4 != 0) = false := by simp [h4]
    by_cases h6 : 64 ≤ n
    · have d6 : decide (64 ≤ n) = true := decide_eq_true h6
      have HP : Hid (M.load l n = 0 ∧ M.isL n = false) := by
        have : M.isL n = false := decide_eq_false (by omega)
        exact ⟨by unfold M.load; rw [this]; rfl, this⟩
      clear h6 h4
      go_enter Tryd.func9, Tryd.ntmps9
      go_wp2
      go_ret2
      exact ⟨by rw [HP.out.1, HP.out.2]; rfl, HB.out _⟩
    · have d6 : decide (64 ≤ n) = false := decide_eq_false h6
      obtain ⟨j, rfl⟩ : ∃ j : Nat, n = 4 * (j : Int) := ⟨(n / 4).toNat, by omega⟩
      have hj : j < 16 := by omega
      have HP : Hid (M.load l (4 * (j : Int)) = M.at_ l j ∧ M.isL (4 * (j : Int)) = true) := by
        have : M.isL (4 * (j : Int)) = true := decide_eq_true (by omega)
        exact ⟨by unfold M.load; rw [this, show (4 * (j : Int) / 4).toNat = j by omega]; rfl, this⟩
      have hg := enc_get ok.1 j hj
      have HL : Hid ((enc l).size = 16) := enc_size ok.1
      have e4 : 4 * (j : Int) / 4 = j := by omega
      have hlt : (j : Int) < 16 := by omega
      obtain ⟨c, hc⟩ : ∃ c, enc l = c := ⟨_, rfl⟩
      rw [hc] at hg ⊢
      clear hc h4 h6
      go_enter Tryd.func9, Tryd.ntmps9
      go_wp2
      go_ret2
      exact ⟨by rw [HP.out.1, HP.out.2]; rfl, HB.out _⟩
  · have d4 : (n % 4 != 0) = true := by simp [h4]
    have HP : Hid (M.load l n = 0 ∧ M.isL n = false) := by
      have : M.isL n = false := decide_eq_false (by omega)
      exact ⟨by unfold M.load; rw [this]; rfl, this⟩
    clear h4
    go_enter Tryd.func9, Tryd.ntmps9
    go_wp2
    go_ret2
    exact ⟨by rw [HP.out.1, HP.out.2]; rfl, HB.out _⟩

set_option maxRecDepth 1000000 in
theorem field_any (l : List Int) (ok : M.okR l) (f : Int) (w : World) :
    Calls Tryd.prog 10 #[.agg (enc l), .int .i64 f] w fun e w' => e = .returned (.tuple #[.int .u64 (M.field l f), .bool (M.isF f)]) ∧ Below w.heap.size w w' := by
  have HB : Hid (∀ o, Below w.heap.size w (w.alloc o)) := fun o => (Below.refl _ w).alloc (Nat.le_refl _) o
  by_cases h : 0 ≤ f ∧ f ≤ 8
  · have hF : M.isF f = true := decide_eq_true h
    by_cases h2 : 2 ≤ f
    · have d2 : decide (2 ≤ f) = true := decide_eq_true h2
      obtain ⟨j, rfl⟩ : ∃ j : Nat, f = (j : Int) + 2 := ⟨(f - 2).toNat, by omega⟩
      have hp : M.place ((j : Int) + 2) = ((2 * j + 2 : Nat) : Int) := by rw [M.place_ge h2 h.2]; omega
      have HP : Hid (M.field l ((j : Int) + 2) = M.at_ l (2 * j + 2) + 4294967296 * M.at_ l (2 * j + 2 + 1)) := by
        rw [M.field_ge l h2 h.2, show (2 * ((j : Int) + 2) - 2).toNat = 2 * j + 2 by omega, show (2 * ((j : Int) + 2) - 1).toNat = 2 * j + 3 by omega]; trivial
      have hg := enc_get ok.1 (2 * j + 2) (by omega)
      have hg2 := enc_get ok.1 (2 * j + 2 + 1) (by omega)
      obtain ⟨k, hk⟩ : ∃ k, k = 2 * j + 2 := ⟨_, rfl⟩
      rw [← hk] at hp hg hg2
      have B1 : Hid (0 ≤ M.at_ l k ∧ M.at_ l k < 4294967296) := M.at_bd ok _
      have B2 : Hid (0 ≤ M.at_ l (k + 1) ∧ M.at_ l (k + 1) < 4294967296) := M.at_bd ok _
      have hlt : (k : Int) < 16 := by omega
      have hlt2 : (k : Int) + 1 < 16 := by omega
      have hlt3 : 0 ≤ (k : Int) + 1 := by omega
      have hlt4 : ((k : Int) + 1).toNat = k + 1 := by omega
      have hwr : IntKind.i64.wrap ((k : Int) + 1) = (k : Int) + 1 := by rw [IntKind.wrap_i64]; omega
      have HK : Hid (k = 2 * j + 2) := hk
      obtain ⟨c, hc⟩ : ∃ c, enc l = c := ⟨_, rfl⟩
      rw [hc] at hg hg2 ⊢
      clear hc h hk h2
      go_enter Tryd.func10, Tryd.ntmps10
      go_wp2_with fail
      refine (isField_any _ _).mono ?_
      rintro e w1 ⟨rfl, rfl⟩
      go_wp2_with fail
      refine (place_any _ _).mono ?_
      rintro e w1 ⟨rfl, rfl⟩
      go_wp2_with fail
      refine (isPair_any _ _).mono ?_
      rintro e w1 ⟨rfl, rfl⟩
      go_wp2_with fail
      refine wp_region_still_tail 7 (by kernel_rfl) (by kernel_rfl) ?_
      change wpStill _ _ (World.drew (w.alloc _)) (fun a' => wpList _ _ _ _ a' (World.drew (w.alloc _))) _ _
      simp only [List.take_succ_cons, List.take_zero, List.drop_succ_cons, List.drop_zero]
      repeat still_step
      refine wpStill_nil ?_
      go_wp2_with fail
      refine (join_any _ _ B1.out B2.out _).mono ?_
      rintro e w' ⟨rfl, rfl⟩
      go_wp2
      go_ret2
      exact ⟨by rw [HP.out, hF, ← HK.out]; rfl, (HB.out _).drew⟩
    · have d2 : decide (2 ≤ f) = false := decide_eq_false h2
      obtain ⟨j, rfl⟩ : ∃ j : Nat, f = (j : Int) := ⟨f.toNat, by omega⟩
      have hp : M.place (j : Int) = (j : Int) := M.place_lt (by omega) (by omega)
      have HP : Hid (M.field l (j : Int) = M.at_ l j) := by
        rw [M.field_lt l (by omega) (by omega)]; trivial
      have hg := enc_get ok.1 j (by omega)
      have hlt : (j : Int) < 16 := by omega
      obtain ⟨c, hc⟩ : ∃ c, enc l = c := ⟨_, rfl⟩
      rw [hc] at hg ⊢
      have b := M.at_bd ok j
      clear hc h h2
      go_enter Tryd.func10, Tryd.ntmps10
      go_wp2_with fail
      refine (isField_any _ _).mono ?_
      rintro e w1 ⟨rfl, rfl⟩
      go_wp2_with fail
      refine (place_any _ _).mono ?_
      rintro e w1 ⟨rfl, rfl⟩
      go_wp2_with fail
      refine (isPair_any _ _).mono ?_
      rintro e w1 ⟨rfl, rfl⟩
      go_wp2
      go_ret2
      exact ⟨by rw [HP.out, hF]; rfl, HB.out _⟩
  · have hF : M.isF f = false := decide_eq_false h
    have HP : Hid (M.field l f = 0) := by unfold M.field; rw [if_pos (by omega)]; trivial
    go_enter Tryd.func10, Tryd.ntmps10
    go_wp2_with fail
    refine (isField_any _ _).mono ?_
    rintro e w1 ⟨rfl, rfl⟩
    go_wp2
    go_ret2
    exact ⟨by rw [HP.out, hF]; rfl, HB.out _⟩
end Go.Proofs.YtgdgigldodbpeaaDoor.B
