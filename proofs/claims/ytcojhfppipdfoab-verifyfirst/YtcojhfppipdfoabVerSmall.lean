/-
  What is wrong with one instruction alone: the small parts, as walks over the Go text.
-/
import Derived.Test.YtcojhfppipdfoabVerMath
import Derived.Test.YtcojhfppipdfoabCodRefs
namespace Go.Proofs.Ytcojhfppipdfoab.M
def ldE (k : Int) : Int := if 64 ≤ k ∨ k % 4 ≠ 0 then 11 else 0
def scE (k : Int) : Int := if 16 ≤ k then 10 else 0
def rkE (c k : Int) : Int := if c / 8 % 2 = 1 then 0 else if c / 16 % 16 * 16 = 48 then (if k = 0 then 8 else 0) else if c / 16 % 16 * 16 = 96 ∨ c / 16 % 16 * 16 = 112 then (if 32 ≤ k then 9 else 0) else 0
def jpE (n i : Nat) (d : Int) : Int := if (n : Int) ≤ i + 1 + d then 7 else 0
def lnE (n : Nat) : Int := if n = 0 then 4 else if 4096 < n then 5 else 0
def bitI (k : Int) : Int := 2 ^ k.toNat
def stW (c k : Int) : Int := if kind c = 8 ∨ kind c = 9 then bitI k else 0
def ldW (c k : Int) : Int := if kind c = 4 ∨ kind c = 6 then bitI k else 0
end Go.Proofs.Ytcojhfppipdfoab.M
namespace Go.Proofs.Ytcojhfppipdfoab.B
open Go.ChangeShapes Go.WideShapes Go.ChangeAt Go.RowKit
set_option linter.unusedVariables false

set_option maxHeartbeats 1600000 in
set_option maxRecDepth 100000 in
theorem target_any (i : Nat) (d : Int) (hi : i ≤ 65536) (hd : 0 ≤ d ∧ d < 4294967296) (w : World) :
    Calls Try.prog 28 #[.int .i64 i, .int .u32 d] w fun e w' => e = .returned (.int .u64 (i + 1 + d)) ∧ w' = w := by
  go_enter Try.func28, Try.ntmps28
  go_wp2
  go_ret
  exact ⟨rfl, rfl⟩

set_option maxHeartbeats 1600000 in
set_option maxRecDepth 100000 in
theorem length_any (a : Option Addr) (n cap : Nat) (hn : n ≤ 9223372036854775807) (w : World) :
    Calls Try.prog 12 #[.slice a n cap] w fun e w' => e = .returned (.int .i64 (M.lnE n)) ∧ w' = w := by
  by_cases h : n = 0
  · subst h
    go_enter Try.func12, Try.ntmps12
    go_wp2
    go_ret
    exact ⟨rfl, rfl⟩
  · have c1 : ((n : Int) == 0) = false := beq_eq_false_iff_ne.2 (by omega)
    by_cases h2 : 4096 < n
    · have c2 : decide (4096 < (n : Int)) = true := decide_eq_true (by omega)
      have HP : Hid (M.lnE n = 5) := by unfold M.lnE; rw [if_neg h, if_pos h2]; trivial
      clear h h2
      go_enter Try.func12, Try.ntmps12
      go_wp2
      go_ret
      exact ⟨by rw [HP.out]; rfl, rfl⟩
    · have c2 : decide (4096 < (n : Int)) = false := decide_eq_false (by omega)
      have HP : Hid (M.lnE n = 0) := by unfold M.lnE; rw [if_neg h, if_neg h2]; trivial
      clear h h2
      go_enter Try.func12, Try.ntmps12
      go_wp2
      go_ret
      exact ⟨by rw [HP.out]; rfl, rfl⟩

set_option maxHeartbeats 1600000 in
set_option maxRecDepth 100000 in
theorem scratch_any (c t f k : Int) (w : World) :
    Calls Try.prog 18 #[.agg #[.int .u16 c, .int .u8 t, .int .u8 f, .int .u32 k]] w fun e w' => e = .returned (.int .i64 (M.scE k)) ∧ Below w.heap.size w w' := by
  rcases hA : decide (16 ≤ k) with _ | _
  · have HP : Hid (M.scE k = 0) := by unfold M.scE; rw [if_neg (of_decide_eq_false hA)]; trivial
    go_enter Try.func18, Try.ntmps18
    go_wp2
    go_ret
    exact ⟨by rw [HP.out]; rfl, al _ _⟩
  · have HP : Hid (M.scE k = 10) := by unfold M.scE; rw [if_pos (of_decide_eq_true hA)]; trivial
    go_enter Try.func18, Try.ntmps18
    go_wp2
    go_ret
    exact ⟨by rw [HP.out]; rfl, al _ _⟩

theorem zero_enc : RB.enc R.zero = #[.int .u32 0, .int .u32 0, .int .u32 0, .int .u32 0, .int .u32 0, .int .u32 0, .int .u32 0, .int .u32 0, .int .u32 0, .int .u32 0, .int .u32 0, .int .u32 0, .int .u32 0, .int .u32 0, .int .u32 0, .int .u32 0] := rfl
theorem okzero : R.okR R.zero := by
  refine ⟨rfl, fun i => ?_⟩
  have := R.at_zero i
  unfold R.at_ at this
  rw [this]; omega
set_option maxHeartbeats 1600000 in
set_option maxRecDepth 100000 in
theorem vload_any (c t f k : Int) (ok : M.okI (c, t, f, k)) (w : World) :
    Calls Try.prog 17 #[.agg #[.int .u16 c, .int .u8 t, .int .u8 f, .int .u32 k]] w fun e w' => e = .returned (.int .i64 (M.ldE k)) ∧ Below w.heap.size w w' := by
  have hL := fun w => RB.load_any R.zero okzero k ok.2.2.2 w
  rw [zero_enc] at hL
  have hE : M.ldE k = if R.isL k then 0 else 11 := by
    unfold M.ldE R.isL
    by_cases h : 64 ≤ k ∨ k % 4 ≠ 0
    · rw [if_pos h, decide_eq_false (by have := ok.2.2.2; simp only at this; omega)]; rfl
    · rw [if_neg h, decide_eq_true (by have := ok.2.2.2; simp only at this; omega)]; rfl
  have HE := hid hE
  clear hE
  go_enter Try.func17, Try.ntmps17
  go_wp2_with fail
  refine (hL _).mono ?_
  rintro e w1 ⟨rfl, hb⟩
  have hB := al_stp (hid (Below.refl w.heap.size w)) hb
  clear hb hL
  generalize R.isL k = b at *
  cases b
  all_goals
    go_wp2
    go_ret
    exact ⟨by rw [HE.out]; rfl, hB.out⟩

set_option maxHeartbeats 1600000 in
set_option maxRecDepth 100000 in
theorem reckoning_any (c t f k : Int) (ok : M.okI (c, t, f, k)) (w : World) :
    Calls Try.prog 19 #[.agg #[.int .u16 c, .int .u8 t, .int .u8 f, .int .u32 k]] w fun e w' => e = .returned (.int .i64 (M.rkE c k)) ∧ Below w.heap.size w w' := by
  have HX := hid (fun w => fromx_any c t f k ok w)
  have HO := hid (fun w => op_any c t f k ok w)
  have hR : M.rkE c k = if decide (c / 8 % 2 = 1) = true then 0 else if (c / 16 % 16 * 16 == 48) = true then (if (k == 0) = true then 8 else 0) else if (c / 16 % 16 * 16 == 96) = true then (if decide (32 ≤ k) = true then 9 else 0) else if (c / 16 % 16 * 16 == 112) = true then (if decide (32 ≤ k) = true then 9 else 0) else 0 := by
    unfold M.rkE
    simp only [decide_eq_true_eq, beq_iff_eq]
    repeat' split
    all_goals first | rfl | omega
  have HR := hid hR
  clear hR
  obtain ⟨x, hx⟩ : ∃ x, decide (c / 8 % 2 = 1) = x := ⟨_, rfl⟩
  rw [hx] at HX HR
  clear hx
  generalize c / 16 % 16 * 16 = o at *
  have c1 : x = true ∨ x = false ∧ ((o == 48) = true ∧ ((k == 0) = true ∨ (k == 0) = false) ∨ (o == 48) = false ∧ ((o == 96) = true ∧ (decide (32 ≤ k) = true ∨ decide (32 ≤ k) = false) ∨ (o == 96) = false ∧ ((o == 112) = true ∧ (decide (32 ≤ k) = true ∨ decide (32 ≤ k) = false) ∨ (o == 112) = false))) := by
    cases x <;> cases (o == 48) <;> cases (k == 0) <;> cases (o == 96) <;> cases (o == 112) <;> cases decide (32 ≤ k) <;> simp
  rcases c1 with rfl | ⟨rfl, ⟨h1, h2 | h2⟩ | ⟨h1, ⟨h2, h3 | h3⟩ | ⟨h2, ⟨h3, h4 | h4⟩ | h3⟩⟩⟩
  all_goals
    simp only [*, if_true, Bool.false_eq_true, if_false] at HR
    go_enter Try.func19, Try.ntmps19
    go_wp2_with fail
    refine (HX.out _).mono ?_
    rintro e w1 ⟨rfl, hb⟩
    obtain ⟨a0, a1, a2, a3, _⟩ := ((At.new w c t f k).below hb).cells
    have hB := al_stp (hid (Below.refl w.heap.size w)) hb
    have hs : w.heap.size < w1.heap.size := by have := hb.size; simp at this; omega
    clear hb
    go_wp2_with (go_at_call 27; refine (HO.out _).mono ?_; rintro e w2 ⟨rfl, hb⟩; have b0 := (hb.cell (p := ⟨w.heap.size, 3, none⟩) hs).trans a3; replace hB := stp hB hb; clear hb a0 a1 a2 a3 hs)
    go_ret
    exact ⟨by rw [HR.out]; rfl, hB.out⟩

set_option maxHeartbeats 1600000 in
set_option maxRecDepth 100000 in
theorem jump_any (a : Option Addr) (n cap i : Nat) (d : Int) (hn : n ≤ 65536) (hi : i ≤ 65536) (hd : 0 ≤ d ∧ d < 4294967296) (w : World) :
    Calls Try.prog 20 #[.slice a n cap, .int .i64 i, .int .u32 d] w fun e w' => e = .returned (.int .i64 (M.jpE n i d)) ∧ w' = w := by
  rcases hA : decide ((n : Int) ≤ i + 1 + d) with _ | _
  · have HP : Hid (M.jpE n i d = 0) := by unfold M.jpE; rw [if_neg (of_decide_eq_false hA)]; trivial
    go_enter Try.func20, Try.ntmps20
    go_wp2_with (go_at_call 28; refine (target_any _ _ hi hd _).mono ?_; rintro e w1 ⟨rfl, rfl⟩)
    go_ret
    exact ⟨by rw [HP.out]; rfl, rfl⟩
  · have HP : Hid (M.jpE n i d = 7) := by unfold M.jpE; rw [if_pos (of_decide_eq_true hA)]; trivial
    go_enter Try.func20, Try.ntmps20
    go_wp2_with (go_at_call 28; refine (target_any _ _ hi hd _).mono ?_; rintro e w1 ⟨rfl, rfl⟩)
    go_ret
    exact ⟨by rw [HP.out]; rfl, rfl⟩
end Go.Proofs.Ytcojhfppipdfoab.B
