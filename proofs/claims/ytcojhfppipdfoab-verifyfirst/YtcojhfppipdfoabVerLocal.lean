/-
  What is wrong with one instruction alone; which word it writes or loads; as walks over the Go text.
-/
import Derived.Test.YtcojhfppipdfoabVerSmall
namespace Go.Proofs.Ytcojhfppipdfoab.M
theorem alu_code : ∀ c ∈ codes, kind c = 10 → (c = 52 ↔ ¬ c / 8 % 2 = 1 ∧ c / 16 % 16 * 16 = 48) ∧ ((c = 100 ∨ c = 116) ↔ ¬ c / 8 % 2 = 1 ∧ (c / 16 % 16 * 16 = 96 ∨ c / 16 % 16 * 16 = 112)) := by decide
theorem in_codes {c : Int} (h : kind c ≠ 0) : c ∈ codes := by
  by_cases hc : c ∈ codes
  · exact hc
  · exact absurd (kind_none hc) h
theorem loc0 {n i : Nat} {c t f k : Int} (h : kind c = 0) : loc n i (c, t, f, k) = 6 := by unfold loc; rw [if_pos h]
theorem loc1 {n i : Nat} {c t f k : Int} (h : kind c = 1) : loc n i (c, t, f, k) = ldE k := by unfold loc ldE; simp [h]
theorem loc4 {n i : Nat} {c t f k : Int} (h : kind c = 4 ∨ kind c = 6 ∨ kind c = 8 ∨ kind c = 9) : loc n i (c, t, f, k) = scE k := by
  unfold loc scE
  simp only
  rw [if_neg (by omega), if_neg (by omega), if_pos h]
theorem loc10 {n i : Nat} {c t f k : Int} (h : kind c = 10) : loc n i (c, t, f, k) = rkE c k := by
  have hc := alu_code c (in_codes (by omega)) h
  unfold loc rkE
  simp only
  rw [if_neg (by omega), if_neg (by omega), if_neg (by omega), if_pos h]
  simp only [hc.1, hc.2]
  by_cases h1 : c / 8 % 2 = 1
  · simp [h1]
  · by_cases h2 : c / 16 % 16 * 16 = 48
    · by_cases h3 : k = 0
      · simp [h1, h2, h3]
      · simp [h1, h2, h3]
    · by_cases h3 : c / 16 % 16 * 16 = 96 ∨ c / 16 % 16 * 16 = 112
      · simp [h1, h2, h3]
      · simp [h1, h2, h3]
theorem loc11 {n i : Nat} {c t f k : Int} (h : kind c = 11) : loc n i (c, t, f, k) = jpE n i k := by
  unfold loc jpE
  simp only
  rw [if_neg (by omega), if_neg (by omega), if_neg (by omega), if_neg (by omega), if_pos h]
theorem loc12 {n i : Nat} {c t f k m : Int} (h : kind c = 12) (hm : (m = t ∨ m = f) ∧ t ≤ m ∧ f ≤ m) : loc n i (c, t, f, k) = jpE n i m := by
  unfold loc jpE
  simp only
  rw [if_neg (by omega), if_neg (by omega), if_neg (by omega), if_neg (by omega), if_neg (by omega), if_pos h]
  by_cases h1 : (n : Int) ≤ i + 1 + m
  · rw [if_pos h1, if_pos (by omega)]
  · rw [if_neg h1, if_neg (by omega)]
theorem loc_else {n i : Nat} {c t f k : Int} (h : kind c ≠ 0 ∧ kind c ≠ 1 ∧ kind c ≠ 4 ∧ kind c ≠ 6 ∧ kind c ≠ 8 ∧ kind c ≠ 9 ∧ kind c ≠ 10 ∧ kind c ≠ 11 ∧ kind c ≠ 12) : loc n i (c, t, f, k) = 0 := by
  unfold loc
  simp only
  rw [if_neg (by omega), if_neg (by omega), if_neg (by omega), if_neg (by omega), if_neg (by omega), if_neg (by omega)]
end Go.Proofs.Ytcojhfppipdfoab.M
namespace Go.Proofs.Ytcojhfppipdfoab.B
open Go.ChangeShapes Go.WideShapes Go.ChangeAt Go.RowKit
set_option linter.unusedVariables false

theorem wrap_bit {k : Int} (h : k < 16) : IntKind.u16.wrap (2 ^ min k.toNat 16) = M.bitI k := by
  unfold M.bitI
  rw [Nat.min_eq_left (by omega)]
  rw [IntKind.wrap_u16]
  have h1 : (2 : Int) ^ k.toNat < 65536 := by
    have : (2 : Nat) ^ k.toNat < 2 ^ 16 := Nat.pow_lt_pow_right (by omega) (by omega)
    have h2 : ((2 ^ k.toNat : Nat) : Int) = (2 : Int) ^ k.toNat := by simp
    omega
  have h0 : (0 : Int) ≤ 2 ^ k.toNat := Int.le_of_lt (Int.pow_pos (by omega))
  generalize (2 : Int) ^ k.toNat = x at *
  omega
set_option maxHeartbeats 1600000 in
set_option maxRecDepth 100000 in
theorem stored_any (c t f k : Int) (ok : M.okI (c, t, f, k)) (h : M.kind c = 8 ∨ M.kind c = 9 → k < 16) (w : World) :
    Calls Try.prog 30 #[.agg #[.int .u16 c, .int .u8 t, .int .u8 f, .int .u32 k]] w fun e w' => e = .returned (.int .u16 (M.stW c k)) ∧ Below w.heap.size w w' := by
  have b3 : 0 ≤ k := ok.2.2.2.1
  have HK := hid h
  clear h
  go_enter Try.func30, Try.ntmps30
  go_wp2_with fail
  refine (kind_any _ _).mono ?_
  rintro e w1 ⟨rfl, rfl⟩
  go_wp2
  all_goals go_ret
  · rename_i h
    have e := eq_of_beq h
    exact ⟨by unfold M.stW; rw [if_pos (Or.inl e), ← wrap_bit (HK.out (Or.inl e))]; rfl, al _ _⟩
  · rename_i h
    have e := eq_of_beq h
    exact ⟨by unfold M.stW; rw [if_pos (Or.inr e), ← wrap_bit (HK.out (Or.inr e))]; rfl, al _ _⟩
  · rename_i h1 h2
    rw [beq_eq_false_iff_ne] at h1 h2
    exact ⟨by unfold M.stW; rw [if_neg (by omega)]; rfl, al _ _⟩
set_option maxHeartbeats 1600000 in
set_option maxRecDepth 100000 in
theorem loaded_any (c t f k : Int) (ok : M.okI (c, t, f, k)) (h : M.kind c = 4 ∨ M.kind c = 6 → k < 16) (w : World) :
    Calls Try.prog 24 #[.agg #[.int .u16 c, .int .u8 t, .int .u8 f, .int .u32 k]] w fun e w' => e = .returned (.int .u16 (M.ldW c k)) ∧ Below w.heap.size w w' := by
  have b3 : 0 ≤ k := ok.2.2.2.1
  have HK := hid h
  clear h
  go_enter Try.func24, Try.ntmps24
  go_wp2_with fail
  refine (kind_any _ _).mono ?_
  rintro e w1 ⟨rfl, rfl⟩
  go_wp2
  all_goals go_ret
  · rename_i h
    have e := eq_of_beq h
    exact ⟨by unfold M.ldW; rw [if_pos (Or.inl e), ← wrap_bit (HK.out (Or.inl e))]; rfl, al _ _⟩
  · rename_i h
    have e := eq_of_beq h
    exact ⟨by unfold M.ldW; rw [if_pos (Or.inr e), ← wrap_bit (HK.out (Or.inr e))]; rfl, al _ _⟩
  · rename_i h1 h2
    rw [beq_eq_false_iff_ne] at h1 h2
    exact ⟨by unfold M.ldW; rw [if_neg (by omega)]; rfl, al _ _⟩

set_option maxHeartbeats 1600000 in
set_option maxRecDepth 100000 in
theorem local_out (a : Option Addr) (n cap : Nat) (i : Int) (hn : n ≤ 65536) (hi : i < 0 ∨ (n : Int) ≤ i) (w : World) :
    Calls Try.prog 6 #[.slice a n cap, .int .i64 i] w fun e w' => e = .returned (.int .i64 2) ∧ w' = w := by
  by_cases h : i < 0
  · have d : decide (i < 0) = true := decide_eq_true h
    go_enter Try.func6, Try.ntmps6
    go_wp2
    go_ret
    exact ⟨rfl, rfl⟩
  · have d : decide (i < 0) = false := decide_eq_false h
    have d2 : decide ((n : Int) ≤ i) = true := decide_eq_true (by omega)
    go_enter Try.func6, Try.ntmps6
    go_wp2
    go_ret
    exact ⟨rfl, rfl⟩

set_option maxHeartbeats 3200000 in
set_option maxRecDepth 100000 in
theorem local_at (b o n cap j : Nat) (c t f k : Int) (hn : n ≤ 65536) (hj : j < n) (ok : M.okI (c, t, f, k)) (w : World) (hl : LiesAt w b o j (c, t, f, k)) :
    Calls Try.prog 6 #[.slice (some ⟨b, o, none⟩) n cap, .int .i64 j] w fun e w' => e = .returned (.int .i64 (M.loc n j (c, t, f, k))) ∧ Below w.heap.size w w' := by
  obtain ⟨p0, p1, p2, p3⟩ := hl
  simp only at p0 p1 p2 p3
  have i1 : (j : Int) < (n : Int) := by omega
  have b1 : 0 ≤ t ∧ t < 256 := ok.2.1
  have b2 : 0 ≤ f ∧ f < 256 := ok.2.2.1
  have HO := hid ok
  clear ok
  have HA := hid (al w (.cells #[.int .u16 c, .int .u8 t, .int .u8 f, .int .u32 k] 32))
  go_enter Try.func6, Try.ntmps6
  go_wp2_with fail
  refine (kind_any _ _).mono ?_
  rintro e w1 ⟨rfl, rfl⟩
  go_wp2_with (first
    | (go_at_call 17; refine (vload_any _ _ _ _ HO.out _).mono ?_; rintro e w1 ⟨rfl, hb⟩; have HA := stp HA hb; clear hb)
    | (go_at_call 18; refine (scratch_any _ _ _ _ _).mono ?_; rintro e w1 ⟨rfl, hb⟩; have HA := stp HA hb; clear hb)
    | (go_at_call 19; refine (reckoning_any _ _ _ _ HO.out _).mono ?_; rintro e w1 ⟨rfl, hb⟩; have HA := stp HA hb; clear hb)
    | (go_at_call 20; refine (jump_any _ _ _ _ _ hn (by omega) (by have := HO.out.2.2.2; simp only at this; first | exact this | omega) _).mono ?_; rintro e w1 ⟨rfl, rfl⟩))
  all_goals go_ret
  · have e : M.kind c = 0 := eq_of_beq (by assumption)
    exact ⟨by rw [M.loc0 e]; rfl, HA.out⟩
  · have e : M.kind c = 1 := eq_of_beq (by assumption)
    exact ⟨by rw [M.loc1 e]; rfl, HA.out⟩
  · have e : M.kind c = 4 := eq_of_beq (by assumption)
    exact ⟨by rw [M.loc4 (Or.inl e)]; rfl, HA.out⟩
  · have e : M.kind c = 6 := eq_of_beq (by assumption)
    exact ⟨by rw [M.loc4 (by omega)]; rfl, HA.out⟩
  · have e : M.kind c = 8 := eq_of_beq (by assumption)
    exact ⟨by rw [M.loc4 (by omega)]; rfl, HA.out⟩
  · have e : M.kind c = 9 := eq_of_beq (by assumption)
    exact ⟨by rw [M.loc4 (by omega)]; rfl, HA.out⟩
  · have e : M.kind c = 10 := eq_of_beq (by assumption)
    exact ⟨by rw [M.loc10 e]; rfl, HA.out⟩
  · have e : M.kind c = 11 := eq_of_beq (by assumption)
    exact ⟨by rw [M.loc11 e]; rfl, HA.out⟩
  · have e : M.kind c = 12 := eq_of_beq (by assumption)
    exact ⟨by rw [M.loc12 (m := f) e (by omega)]; rfl, HA.out⟩
  · have e : M.kind c = 12 := eq_of_beq (by assumption)
    exact ⟨by rw [M.loc12 (m := t) e (by omega)]; rfl, HA.out⟩
  · rename_i h0 h1 h2 h3 h4 h5 h6 h7 h8
    rw [beq_eq_false_iff_ne] at h0 h1 h2 h3 h4 h5 h6 h7 h8
    exact ⟨by rw [M.loc_else (by omega)]; rfl, HA.out⟩
end Go.Proofs.Ytcojhfppipdfoab.B
