/-
  The reference's May of layer 11, an operation at a time, as walks over the Go text.
-/
import Derived.Test.YtkeigicobcjleabTerBase
namespace Go.Proofs.Ytkeigicobcjleab.TB
open Go.ChangeShapes Go.WideShapes Go.ChangeAt Go.RowKit
open Go.Sort hiding Below
set_option linter.unusedVariables false
set_option maxRecDepth 100000

set_option maxHeartbeats 1600000 in
set_option maxRecDepth 100000 in
theorem rmay_num (a b k : Int) (i : Nat) (w : World) :
    Calls Try.prog 42 #[.agg #[.int .i64 1, .int .i64 a, .int .i64 b, .int .u32 k], .int .i64 i] w fun e w' => e = .returned (.bool (a == 0 && b == 0)) ∧ Below w.heap.size w w' := by
  have HB := hid (al w (.cells #[.int .i64 1, .int .i64 a, .int .i64 b, .int .u32 k] 28))
  cases h1 : (a == 0) <;> cases h2 : (b == 0)
  all_goals
    go_enter Try.func42, Try.ntmps42
    go_wp2
    go_ret
    exact ⟨rfl, HB.out⟩
set_option maxHeartbeats 1600000 in
set_option maxRecDepth 100000 in
theorem rmay_word (a b k : Int) (i : Nat) (w : World) :
    Calls Try.prog 42 #[.agg #[.int .i64 2, .int .i64 a, .int .i64 b, .int .u32 k], .int .i64 i] w fun e w' => e = .returned (.bool (a == 0 && b == 0 && decide (k ≤ 15))) ∧ Below w.heap.size w w' := by
  have HB := hid (al w (.cells #[.int .i64 2, .int .i64 a, .int .i64 b, .int .u32 k] 28))
  cases h1 : (a == 0) <;> cases h2 : (b == 0) <;> cases h3 : decide (k ≤ 15)
  all_goals
    go_enter Try.func42, Try.ntmps42
    go_wp2
    go_ret
    exact ⟨rfl, HB.out⟩
theorem isA_not {o : Int} (h : TM.isA o = false) : (o == 256) = false ∧ (o == 272) = false ∧ (o == 288) = false ∧ (o == 304) = false ∧ (o == 320) = false ∧ (o == 336) = false ∧ (o == 352) = false ∧ (o == 368) = false ∧ (o == 384) = false ∧ (o == 416) = false := by
  unfold TM.isA at h
  simp only [Bool.or_eq_false_iff] at h
  obtain ⟨⟨⟨⟨⟨⟨⟨⟨⟨h1, h2⟩, h3⟩, h4⟩, h5⟩, h6⟩, h7⟩, h8⟩, h9⟩, h10⟩ := h
  exact ⟨h1, h2, h3, h4, h5, h6, h7, h8, h9, h10⟩
set_option maxHeartbeats 1600000 in
set_option maxRecDepth 100000 in
theorem rmay_none (o a b k : Int) (h1 : o ≠ 1) (h2 : o ≠ 2) (h : TM.isA o = false) (i : Nat) (w : World) :
    Calls Try.prog 42 #[.agg #[.int .i64 o, .int .i64 a, .int .i64 b, .int .u32 k], .int .i64 i] w fun e w' => e = .returned (.bool false) ∧ Below w.heap.size w w' := by
  have HB := hid (al w (.cells #[.int .i64 o, .int .i64 a, .int .i64 b, .int .u32 k] 28))
  have d1 : (o == 1) = false := beq_eq_false_iff_ne.2 h1
  have d2 : (o == 2) = false := beq_eq_false_iff_ne.2 h2
  obtain ⟨e1, e2, e3, e4, e5, e6, e7, e8, e9, e10⟩ := isA_not h
  clear h1 h2 h
  go_enter Try.func42, Try.ntmps42
  go_wp2
  go_ret
  exact ⟨rfl, HB.out⟩
set_option maxHeartbeats 6400000 in
set_option maxRecDepth 100000 in
theorem rmay_neg (a b k : Int) (i : Nat) (w : World) :
    Calls Try.prog 42 #[.agg #[.int .i64 384, .int .i64 a, .int .i64 b, .int .u32 k], .int .i64 i] w fun e w' => e = .returned (.bool (k == 0 && !decide (a < 0) && !decide ((i : Int) ≤ a) && b == 0)) ∧ Below w.heap.size w w' := by
  have HB := hid (al w (.cells #[.int .i64 384, .int .i64 a, .int .i64 b, .int .u32 k] 28))
  cases h1 : (k == 0)
  · have h1' : (k != 0) = true := by simp [bne, h1]
    go_enter Try.func42, Try.ntmps42
    go_wp2
    go_ret
    exact ⟨rfl, HB.out⟩
  · have h1' : (k != 0) = false := by simp [bne, h1]
    cases h2 : decide (a < 0) <;> cases h3 : decide ((i : Int) ≤ a) <;> cases h4 : (b == 0)
    all_goals
      go_enter Try.func42, Try.ntmps42
      go_wp2
      go_ret
      exact ⟨rfl, HB.out⟩
set_option maxHeartbeats 6400000 in
set_option maxRecDepth 100000 in
theorem rmay_two (o a b k : Int) (h : o = 256 ∨ o = 272 ∨ o = 288 ∨ o = 304 ∨ o = 320 ∨ o = 336 ∨ o = 352 ∨ o = 368 ∨ o = 416) (i : Nat) (w : World) :
    Calls Try.prog 42 #[.agg #[.int .i64 o, .int .i64 a, .int .i64 b, .int .u32 k], .int .i64 i] w fun e w' => e = .returned (.bool (k == 0 && !decide (a < 0) && !decide ((i : Int) ≤ a) && (decide (0 ≤ b) && decide (b < (i : Int))))) ∧ Below w.heap.size w w' := by
  have HB := hid (al w (.cells #[.int .i64 o, .int .i64 a, .int .i64 b, .int .u32 k] 28))
  cases h1 : (k == 0)
  · have h1' : (k != 0) = true := by simp [bne, h1]
    rcases h with rfl | rfl | rfl | rfl | rfl | rfl | rfl | rfl | rfl
    all_goals
      go_enter Try.func42, Try.ntmps42
      go_wp2
      go_ret
      exact ⟨rfl, HB.out⟩
  · have h1' : (k != 0) = false := by simp [bne, h1]
    cases h2 : decide (a < 0)
    · cases h3 : decide ((i : Int) ≤ a)
      · cases h4 : decide (0 ≤ b)
        · rcases h with rfl | rfl | rfl | rfl | rfl | rfl | rfl | rfl | rfl
          all_goals
            go_enter Try.func42, Try.ntmps42
            go_wp2
            go_ret
            exact ⟨rfl, HB.out⟩
        · cases h5 : decide (b < (i : Int))
          all_goals
            rcases h with rfl | rfl | rfl | rfl | rfl | rfl | rfl | rfl | rfl
            all_goals
              go_enter Try.func42, Try.ntmps42
              go_wp2
              go_ret
              exact ⟨rfl, HB.out⟩
      · rcases h with rfl | rfl | rfl | rfl | rfl | rfl | rfl | rfl | rfl
        all_goals
          go_enter Try.func42, Try.ntmps42
          go_wp2
          go_ret
          exact ⟨rfl, HB.out⟩
    · rcases h with rfl | rfl | rfl | rfl | rfl | rfl | rfl | rfl | rfl
      all_goals
        go_enter Try.func42, Try.ntmps42
        go_wp2
        go_ret
        exact ⟨rfl, HB.out⟩
end Go.Proofs.Ytkeigicobcjleab.TB
