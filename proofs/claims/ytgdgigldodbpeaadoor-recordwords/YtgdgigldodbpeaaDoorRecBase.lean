/-
  A record's words and fields, as walks over the Go text.
-/
import Derived.Test.YtgdgigldodbpeaaDoorRows
import Derived.Test.YtgdgigldodbpeaaDoorRecMath
import Derived.WalkKit
import Derived.ProofKit
import Derived.OpenShut
import Derived.WalkLawsBesides
import Derived.Laws.Shifts
import Derived.Laws.BitsAllLaws
import Derived.Deep.WholeRow
import Derived.Deep.QuietTactic
import Derived.BigQuiet
import Derived.Outline
namespace Go.Proofs.YtgdgigldodbpeaaDoor.B
open Go.ChangeShapes Go.WideShapes Go.ChangeAt Go.RowKit
set_option linter.unusedVariables false

def enc (l : List Int) : Array Value := (l.map (Value.int .u32)).toArray
theorem enc_size {l : List Int} (h : l.length = 16) : (enc l).size = 16 := by simp [enc, h]
theorem enc_get {l : List Int} (h : l.length = 16) (i : Nat) (hi : i < 16) : (enc l)[i]? = some (.int .u32 (M.at_ l i)) := by
  simp [enc, M.at_, List.getD_eq_getElem?_getD, List.getElem?_eq_getElem (show i < l.length by omega)]
theorem enc_set (l : List Int) (i : Nat) (v : Int) : (enc l).setIfInBounds i (.int .u32 v) = enc (l.set i v) := by
  apply Array.toList_inj.1
  simp [enc, List.map_set]
theorem enc_one (l : List Int) : (enc l).all (·.oneCell') = true := by
  rw [Array.all_eq_true_iff_forall_mem]
  intro v hv
  simp [enc] at hv
  obtain ⟨x, _, rfl⟩ := hv
  rfl
theorem enc_inj {l m : List Int} (h : enc l = enc m) : l = m := by
  have := congrArg Array.toList h
  simp only [enc] at this
  exact List.map_inj_right (f := Value.int .u32) (fun a b e => by injection e) |>.1 this
theorem info24 : (Tryd.prog.info? 24).map (fun i => (i.zero, i.size, i.bytes)) = some (some (.agg (enc M.zero)), 16, 64) := by kernel_rfl
theorem size24 : (Tryd.prog.info? 24).map (·.size) = some 16 := by kernel_rfl

set_option maxRecDepth 100000 in
theorem isField_any (f : Int) (w : World) : Calls Tryd.prog 26 #[.int .i64 f] w fun e w' => e = .returned (.bool (M.isF f)) ∧ w' = w := by
  have e : M.isF f = (decide (0 ≤ f) && decide (f < 9)) := by
    unfold M.isF
    rw [← Bool.decide_and]
    exact decide_eq_decide.2 (by omega)
  rw [e]
  clear e
  rcases hA : decide (0 ≤ f) with _ | _
  · go_enter Tryd.func26, Tryd.ntmps26
    go_wp2
    go_ret
    exact ⟨rfl, rfl⟩
  · go_enter Tryd.func26, Tryd.ntmps26
    go_wp2
    go_ret
    exact ⟨by simp, rfl⟩
set_option maxRecDepth 100000 in
theorem isPair_any (f : Int) (w : World) : Calls Tryd.prog 27 #[.int .i64 f] w fun e w' => e = .returned (.bool (decide (2 ≤ f))) ∧ w' = w := by
  go_enter Tryd.func27, Tryd.ntmps27
  go_wp2
  go_ret
  exact ⟨rfl, rfl⟩
set_option maxRecDepth 100000 in
theorem lo_any (v : Int) (h : 0 ≤ v ∧ v < 18446744073709551616) (w : World) : Calls Tryd.prog 30 #[.int .u64 v] w fun e w' => e = .returned (.int .u32 (v % 4294967296)) ∧ w' = w := by
  go_enter Tryd.func30, Tryd.ntmps30
  go_wp2
  go_ret
  exact ⟨rfl, rfl⟩
set_option maxRecDepth 100000 in
theorem hi_any (v : Int) (h : 0 ≤ v ∧ v < 18446744073709551616) (w : World) : Calls Tryd.prog 29 #[.int .u64 v] w fun e w' => e = .returned (.int .u32 (v / 4294967296)) ∧ w' = w := by
  go_enter Tryd.func29, Tryd.ntmps29
  go_wp2
  go_ret
  exact ⟨rfl, rfl⟩
theorem parts (a : Int) (h0 : 0 ≤ a) (h1 : a < 18446744073709551616) : bits .or .u64 (a / 4294967296 * 4294967296) (a % 4294967296) = a := by
  obtain ⟨n, rfl⟩ := Int.eq_ofNat_of_zero_le h0
  rw [u64_or _ _ (by omega) (by omega) (by omega) (by omega)]
  have e1 : ((n : Int) / 4294967296 * 4294967296).toNat = (n / 4294967296) <<< 32 := by rw [Nat.shiftLeft_eq]; omega
  have e2 : ((n : Int) % 4294967296).toNat = n % 4294967296 := by omega
  rw [e1, e2, ← Nat.shiftLeft_add_eq_or_of_lt (by omega : n % 4294967296 < 2 ^ 32), Nat.shiftLeft_eq]
  omega
theorem join_or (a b : Int) (ha : 0 ≤ a ∧ a < 4294967296) (hb : 0 ≤ b ∧ b < 4294967296) : bits .or .u64 (b * 4294967296) a = a + 4294967296 * b := by
  have := parts (a + 4294967296 * b) (by omega) (by omega)
  rw [show (a + 4294967296 * b) / 4294967296 = b by omega, show (a + 4294967296 * b) % 4294967296 = a by omega] at this
  exact this
set_option maxRecDepth 100000 in
theorem join_any (a b : Int) (ha : 0 ≤ a ∧ a < 4294967296) (hb : 0 ≤ b ∧ b < 4294967296) (w : World) : Calls Tryd.prog 28 #[.int .u32 a, .int .u32 b] w fun e w' => e = .returned (.int .u64 (a + 4294967296 * b)) ∧ w' = w := by
  go_enter Tryd.func28, Tryd.ntmps28
  go_wp2
  go_ret
  exact ⟨by rw [← join_or a b ha hb]; rfl, rfl⟩

set_option maxRecDepth 100000 in
theorem place_any (f : Int) (w : World) : Calls Tryd.prog 16 #[.int .i64 f] w fun e w' => e = .returned (.int .i64 (M.place f)) ∧ w' = w := by
  by_cases h : 0 ≤ f ∧ f ≤ 8
  · have hF : M.isF f = true := decide_eq_true h
    by_cases h2 : 2 ≤ f
    · have d : decide (2 ≤ f) = true := decide_eq_true h2
      have hp := M.place_ge h2 h.2
      have e1 : 2 * (f - 2) + 2 = 2 * f - 2 := by omega
      have HP : Hid (M.place f = 2 * f - 2) := hp
      clear hp
      go_enter Tryd.func16, Tryd.ntmps16
      go_wp2_with fail
      refine (isField_any _ _).mono ?_
      rintro e w1 ⟨rfl, rfl⟩
      go_wp2_with fail
      refine (isPair_any _ _).mono ?_
      rintro e w1 ⟨rfl, rfl⟩
      go_wp2
      go_ret
      exact ⟨by rw [HP.out]; simp; omega, rfl⟩
    · have d : decide (2 ≤ f) = false := decide_eq_false h2
      have HP : Hid (M.place f = f) := M.place_lt h.1 (by omega)
      go_enter Tryd.func16, Tryd.ntmps16
      go_wp2_with fail
      refine (isField_any _ _).mono ?_
      rintro e w1 ⟨rfl, rfl⟩
      go_wp2_with fail
      refine (isPair_any _ _).mono ?_
      rintro e w1 ⟨rfl, rfl⟩
      go_wp2
      go_ret
      exact ⟨by rw [HP.out]; rfl, rfl⟩
  · have hF : M.isF f = false := decide_eq_false h
    have HP : Hid (M.place f = -1) := by unfold M.place; rw [if_pos (by omega)]; trivial
    go_enter Tryd.func16, Tryd.ntmps16
    go_wp2_with fail
    refine (isField_any _ _).mono ?_
    rintro e w1 ⟨rfl, rfl⟩
    go_wp2
    go_ret
    exact ⟨by rw [HP.out]; rfl, rfl⟩
set_option maxRecDepth 100000 in
theorem width_any (f : Int) (w : World) : Calls Tryd.prog 18 #[.int .i64 f] w fun e w' => e = .returned (.int .i64 (M.width f)) ∧ w' = w := by
  by_cases h : 0 ≤ f ∧ f ≤ 8
  · have hF : M.isF f = true := decide_eq_true h
    by_cases h2 : 2 ≤ f
    · have d : decide (2 ≤ f) = true := decide_eq_true h2
      have HP : Hid (M.width f = 64) := by unfold M.width; rw [if_neg (by omega), if_neg (by omega)]; trivial
      go_enter Tryd.func18, Tryd.ntmps18
      go_wp2_with fail
      refine (isField_any _ _).mono ?_
      rintro e w1 ⟨rfl, rfl⟩
      go_wp2_with fail
      refine (isPair_any _ _).mono ?_
      rintro e w1 ⟨rfl, rfl⟩
      go_wp2
      go_ret
      exact ⟨by rw [HP.out]; rfl, rfl⟩
    · have d : decide (2 ≤ f) = false := decide_eq_false h2
      have HP : Hid (M.width f = 32) := by unfold M.width; rw [if_neg (by omega), if_pos (by omega)]; trivial
      go_enter Tryd.func18, Tryd.ntmps18
      go_wp2_with fail
      refine (isField_any _ _).mono ?_
      rintro e w1 ⟨rfl, rfl⟩
      go_wp2_with fail
      refine (isPair_any _ _).mono ?_
      rintro e w1 ⟨rfl, rfl⟩
      go_wp2
      go_ret
      exact ⟨by rw [HP.out]; rfl, rfl⟩
  · have hF : M.isF f = false := decide_eq_false h
    have HP : Hid (M.width f = 0) := by unfold M.width; rw [if_pos (by omega)]; trivial
    go_enter Tryd.func18, Tryd.ntmps18
    go_wp2_with fail
    refine (isField_any _ _).mono ?_
    rintro e w1 ⟨rfl, rfl⟩
    go_wp2
    go_ret
    exact ⟨by rw [HP.out]; rfl, rfl⟩

set_option maxRecDepth 100000 in
theorem rplace_any (f : Int) (w : World) : Calls Tryd.prog 17 #[.int .i64 f] w fun e w' => e = .returned (.int .i64 (M.place f)) ∧ w' = w := by
  by_cases h0 : f < 0
  · have d0 : decide (f < 0) = true := decide_eq_true h0
    have HP : Hid (M.place f = -1) := by unfold M.place; rw [if_pos (by omega)]; trivial
    clear h0
    go_enter Tryd.func17, Tryd.ntmps17
    go_wp2
    go_ret
    exact ⟨by rw [HP.out]; rfl, rfl⟩
  have d0 : decide (f < 0) = false := decide_eq_false h0
  by_cases h8 : 8 < f
  · have d8 : decide (8 < f) = true := decide_eq_true h8
    have HP : Hid (M.place f = -1) := by unfold M.place; rw [if_pos (by omega)]; trivial
    clear h0 h8
    go_enter Tryd.func17, Tryd.ntmps17
    go_wp2
    go_ret
    exact ⟨by rw [HP.out]; rfl, rfl⟩
  have d8 : decide (8 < f) = false := decide_eq_false h8
  by_cases h2 : f < 2
  · have d2 : decide (f < 2) = true := decide_eq_true h2
    have HP : Hid (M.place f = f) := M.place_lt (by omega) h2
    clear h0 h8 h2
    go_enter Tryd.func17, Tryd.ntmps17
    go_wp2
    go_ret
    exact ⟨by rw [HP.out]; rfl, rfl⟩
  · have d2 : decide (f < 2) = false := decide_eq_false h2
    have HP : Hid (M.place f = 2 * f - 2) := M.place_ge (by omega) (by omega)
    go_enter Tryd.func17, Tryd.ntmps17
    go_wp2
    go_ret
    exact ⟨by rw [HP.out]; rfl, rfl⟩
set_option maxRecDepth 100000 in
theorem rwidth_any (f : Int) (w : World) : Calls Tryd.prog 19 #[.int .i64 f] w fun e w' => e = .returned (.int .i64 (M.width f)) ∧ w' = w := by
  by_cases h0 : f < 0
  · have d0 : decide (f < 0) = true := decide_eq_true h0
    have HP : Hid (M.width f = 0) := by unfold M.width; rw [if_pos (by omega)]; trivial
    clear h0
    go_enter Tryd.func19, Tryd.ntmps19
    go_wp2
    go_ret
    exact ⟨by rw [HP.out]; rfl, rfl⟩
  have d0 : decide (f < 0) = false := decide_eq_false h0
  by_cases h8 : 8 < f
  · have d8 : decide (8 < f) = true := decide_eq_true h8
    have HP : Hid (M.width f = 0) := by unfold M.width; rw [if_pos (by omega)]; trivial
    clear h0 h8
    go_enter Tryd.func19, Tryd.ntmps19
    go_wp2
    go_ret
    exact ⟨by rw [HP.out]; rfl, rfl⟩
  have d8 : decide (8 < f) = false := decide_eq_false h8
  by_cases h2 : f < 2
  · have d2 : decide (f < 2) = true := decide_eq_true h2
    have HP : Hid (M.width f = 32) := by unfold M.width; rw [if_neg (by omega), if_pos (by omega)]; trivial
    clear h0 h8 h2
    go_enter Tryd.func19, Tryd.ntmps19
    go_wp2
    go_ret
    exact ⟨by rw [HP.out]; rfl, rfl⟩
  · have d2 : decide (f < 2) = false := decide_eq_false h2
    have HP : Hid (M.width f = 64) := by unfold M.width; rw [if_neg (by omega), if_neg (by omega)]; trivial
    clear h0 h8 h2
    go_enter Tryd.func19, Tryd.ntmps19
    go_wp2
    go_ret
    exact ⟨by rw [HP.out]; rfl, rfl⟩
set_option maxRecDepth 100000 in
theorem of_any (n : Int) (w : World) : Calls Tryd.prog 15 #[.int .i64 n] w fun e w' => e = .returned (.tuple #[.int .i64 (M.ofw n), .bool (M.hiw n)]) ∧ w' = w := by
  by_cases h0 : n < 0
  · have d0 : decide (n < 0) = true := decide_eq_true h0
    have HP : Hid (M.ofw n = -1 ∧ M.hiw n = false) := by unfold M.ofw M.hiw; rw [if_pos (by omega), if_pos (by omega)]; exact ⟨rfl, rfl⟩
    clear h0
    go_enter Tryd.func15, Tryd.ntmps15
    go_wp2
    go_ret2
    exact ⟨by rw [HP.out.1, HP.out.2]; rfl, rfl⟩
  have d0 : decide (n < 0) = false := decide_eq_false h0
  by_cases h8 : 16 ≤ n
  · have d8 : decide (16 ≤ n) = true := decide_eq_true h8
    have HP : Hid (M.ofw n = -1 ∧ M.hiw n = false) := by unfold M.ofw M.hiw; rw [if_pos (by omega), if_pos (by omega)]; exact ⟨rfl, rfl⟩
    clear h0 h8
    go_enter Tryd.func15, Tryd.ntmps15
    go_wp2
    go_ret2
    exact ⟨by rw [HP.out.1, HP.out.2]; rfl, rfl⟩
  have d8 : decide (16 ≤ n) = false := decide_eq_false h8
  by_cases h2 : n < 2
  · have d2 : decide (n < 2) = true := decide_eq_true h2
    have HP : Hid (M.ofw n = n ∧ M.hiw n = false) := by unfold M.ofw M.hiw; rw [if_neg (by omega), if_pos (by omega), if_neg (by omega), if_pos (by omega)]; exact ⟨rfl, rfl⟩
    clear h0 h8 h2
    go_enter Tryd.func15, Tryd.ntmps15
    go_wp2
    go_ret2
    exact ⟨by rw [HP.out.1, HP.out.2]; rfl, rfl⟩
  · have d2 : decide (n < 2) = false := decide_eq_false h2
    have HP : Hid (M.ofw n = 2 + (n - 2) / 2 ∧ M.hiw n = decide ((n - 2) % 2 = 1)) := by unfold M.ofw M.hiw; rw [if_neg (by omega), if_neg (by omega), if_neg (by omega), if_neg (by omega)]; exact ⟨rfl, rfl⟩
    obtain ⟨m, hm⟩ : ∃ m : Nat, n = m + 2 := ⟨(n - 2).toNat, by omega⟩
    subst hm
    clear h2
    go_enter Tryd.func15, Tryd.ntmps15
    go_wp2
    go_ret2
    exact ⟨by rw [HP.out.1, HP.out.2]; simp; rfl, rfl⟩
end Go.Proofs.YtgdgigldodbpeaaDoor.B
