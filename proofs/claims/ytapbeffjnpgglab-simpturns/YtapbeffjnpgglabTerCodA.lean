/-
  The program's parts, ahead, reckoned, stands of layer 11, as walks over the Go text.
-/
import Derived.Test.YtapbeffjnpgglabTerBase
import Derived.Test.YtapbeffjnpgglabH5
namespace Go.Proofs.Ytapbeffjnpgglab.TB
open Go.ChangeShapes Go.WideShapes Go.ChangeAt Go.RowKit
open Go.Sort hiding Below
set_option linter.unusedVariables false
set_option maxRecDepth 100000

set_option maxHeartbeats 1600000 in
set_option maxRecDepth 100000 in
theorem cparts (o a b k : Int) (z : Int) (hz : (if o = 1 ∨ o = 2 then 0 else if o = 384 then 1 else 2 : Int) = z) (w : World) :
    Calls Try.prog 39 #[.agg #[.int .i64 o, .int .i64 a, .int .i64 b, .int .u32 k]] w fun e w' => e = .returned (.int .i64 z) ∧ Below w.heap.size w w' := by
  have HB := hid (al w (.cells #[.int .i64 o, .int .i64 a, .int .i64 b, .int .u32 k] 40))
  by_cases h1 : o = 1
  · subst h1
    obtain rfl : (0 : Int) = z := by rw [← hz]; decide
    go_enter Try.func39, Try.ntmps39
    go_wp2
    go_ret
    exact ⟨rfl, HB.out⟩
  · by_cases h2 : o = 2
    · subst h2
      obtain rfl : (0 : Int) = z := by rw [← hz]; decide
      go_enter Try.func39, Try.ntmps39
      go_wp2
      go_ret
      exact ⟨rfl, HB.out⟩
    · by_cases h3 : o = 384
      · subst h3
        obtain rfl : (1 : Int) = z := by rw [← hz]; decide
        go_enter Try.func39, Try.ntmps39
        go_wp2
        go_ret
        exact ⟨rfl, HB.out⟩
      · obtain rfl : (2 : Int) = z := by rw [← hz, if_neg (by omega), if_neg h3]
        have d1 : (o == 1) = false := beq_eq_false_iff_ne.2 h1
        have d2 : (o == 2) = false := beq_eq_false_iff_ne.2 h2
        have d3 : (o == 384) = false := beq_eq_false_iff_ne.2 h3
        clear h1 h2 h3 hz
        go_enter Try.func39, Try.ntmps39
        go_wp2
        go_ret
        exact ⟨rfl, HB.out⟩
set_option maxHeartbeats 1600000 in
set_option maxRecDepth 100000 in
theorem cahead (p i : Int) (q : Bool) (hq : (decide (0 ≤ p) && decide (p < i)) = q) (w : World) :
    Calls Try.prog 40 #[.int .i64 p, .int .i64 i] w fun e w' => e = .returned (.bool q) ∧ Below w.heap.size w w' := by
  subst hq
  have HB := hid (Below.refl w.heap.size w)
  cases h1 : decide (0 ≤ p) <;> cases h2 : decide (p < i)
  all_goals
    go_enter Try.func40, Try.ntmps40
    go_wp2
    go_ret
    exact ⟨rfl, HB.out⟩
theorem ok_isA (o : Int) (h1 : -9223372036854775808 ≤ o) (h2 : o < 9223372036854775808) : WM.ok (wrap64 (o - 256)) 1 = TM.isA o := by
  have hw : wrap64 (o - 256) = o - 256 ∨ (o < -9223372036854775552 ∧ wrap64 (o - 256) = o - 256 + 18446744073709551616) := by
    unfold wrap64; omega
  have hA : TM.isA o = decide (o = 256 ∨ o = 272 ∨ o = 288 ∨ o = 304 ∨ o = 320 ∨ o = 336 ∨ o = 352 ∨ o = 368 ∨ o = 384 ∨ o = 416) := by
    rw [Bool.eq_iff_iff, TM.isA_iff, decide_eq_true_eq]
  rw [hA, Bool.eq_iff_iff, decide_eq_true_eq]
  generalize wrap64 (o - 256) = z at hw
  unfold WM.ok
  simp only [Bool.or_eq_true, beq_iff_eq, Bool.and_eq_true, bne_iff_ne]
  omega
set_option maxHeartbeats 1600000 in
set_option maxRecDepth 100000 in
theorem creck (o : Int) (h1 : -9223372036854775808 ≤ o) (h2 : o < 9223372036854775808) (q : Bool) (hq : TM.isA o = q) (w : World) :
    Calls Try.prog 41 #[.int .i64 o] w fun e w' => e = .returned (.bool q) ∧ Below w.heap.size w w' := by
  have HS := hid (ok_isA o h1 h2)
  have HB := hid (Below.refl w.heap.size w)
  have HQ := hid hq
  clear hq h1 h2
  go_enter Try.func41, Try.ntmps41
  go_wp2_with (go_at_call 19; refine (WB.alu_any _ 0 1 (by omega) (by omega) (by omega) _).mono ?_; rintro e w1 ⟨rfl, rfl⟩)
  go_ret
  exact ⟨by rw [HS.out, HQ.out]; rfl, HB.out⟩

set_option maxHeartbeats 1600000 in
set_option maxRecDepth 100000 in
theorem cstands0 (o a b k : Int) (ho : o = 1 ∨ o = 2) (i : Nat) (w : World) (q : Bool) (hq : TM.may (o, a, b, k) i = q) :
    Calls Try.prog 28 #[.agg #[.int .i64 o, .int .i64 a, .int .i64 b, .int .u32 k], .int .i64 i] w fun e w' => e = .returned (.bool q) ∧ Below w.heap.size w w' := by
  have HB := hid (al w (.cells #[.int .i64 o, .int .i64 a, .int .i64 b, .int .u32 k] 40))
  have HP := hid (cparts o a b k 0 (by rw [if_pos ho]))
  rcases ho with rfl | rfl
  · rw [TM.may_num rfl] at hq
    subst hq
    simp only
    cases h1 : (a == 0) <;> cases h2 : (b == 0)
    all_goals
      go_enter Try.func28, Try.ntmps28
      go_wp2_with (go_at_call 39; refine (HP.out _).mono ?_; rintro e w1 ⟨rfl, hb⟩; have HB2 := hid (HB.out.trans (hb.mono HB.out.size)); have c0 := hb.cell (p := ⟨w.heap.size, 0, none⟩) (by simp); have c1 := hb.cell (p := ⟨w.heap.size, 1, none⟩) (by simp); have c2 := hb.cell (p := ⟨w.heap.size, 2, none⟩) (by simp); have c3 := hb.cell (p := ⟨w.heap.size, 3, none⟩) (by simp); clear hb HP HB)
      go_ret
      exact ⟨rfl, HB2.out⟩
  · rw [TM.may_word rfl] at hq
    subst hq
    simp only
    have e15 : decide (k ≤ 15) = decide (k < 16) := decide_eq_decide.2 (by omega)
    rw [e15]
    cases h1 : (a == 0) <;> cases h2 : (b == 0) <;> cases h3 : decide (k < 16)
    all_goals
      go_enter Try.func28, Try.ntmps28
      go_wp2_with (go_at_call 39; refine (HP.out _).mono ?_; rintro e w1 ⟨rfl, hb⟩; have HB2 := hid (HB.out.trans (hb.mono HB.out.size)); have c0 := hb.cell (p := ⟨w.heap.size, 0, none⟩) (by simp); have c1 := hb.cell (p := ⟨w.heap.size, 1, none⟩) (by simp); have c2 := hb.cell (p := ⟨w.heap.size, 2, none⟩) (by simp); have c3 := hb.cell (p := ⟨w.heap.size, 3, none⟩) (by simp); clear hb HP HB)
      go_ret
      exact ⟨rfl, HB2.out⟩

set_option maxHeartbeats 1600000 in
theorem cstands1 (a b k : Int) (i : Nat) (w : World) (q : Bool) (hq : TM.may (384, a, b, k) i = q) :
    Calls Try.prog 28 #[.agg #[.int .i64 384, .int .i64 a, .int .i64 b, .int .u32 k], .int .i64 i] w fun e w' => e = .returned (.bool q) ∧ Below w.heap.size w w' := by
  rw [TM.may_neg rfl] at hq
  simp only at hq
  have hq' : (k == 0 && (decide (0 ≤ a) && decide (a < (i : Int))) && b == 0) = q := by rw [← hq]; simp [Bool.and_assoc]
  clear hq
  obtain ⟨u, hu⟩ : ∃ u, (decide (0 ≤ a) && decide (a < (i : Int))) = u := ⟨_, rfl⟩
  rw [hu] at hq'
  subst hq'
  have HB := hid (al w (.cells #[.int .i64 384, .int .i64 a, .int .i64 b, .int .u32 k] 40))
  have HP := hid (cparts 384 a b k 1 rfl)
  have HA := hid (fun W => cahead a i u hu W)
  clear hu
  have HW := hid (show ∀ w1 : World, Below (w.alloc (.cells #[.int .i64 384, .int .i64 a, .int .i64 b, .int .u32 k] 40)).heap.size (w.alloc (.cells #[.int .i64 384, .int .i64 a, .int .i64 b, .int .u32 k] 40)) w1 → ∀ j : Nat, w1.cell? ⟨w.heap.size, j, none⟩ = (w.alloc (.cells #[.int .i64 384, .int .i64 a, .int .i64 b, .int .u32 k] 40)).cell? ⟨w.heap.size, j, none⟩ from fun w1 hb j => hb.cell (p := ⟨w.heap.size, j, none⟩) (by simp))
  cases h1 : (k == 0) <;> cases u <;> cases h2 : (b == 0)
  all_goals
    go_enter Try.func28, Try.ntmps28
    go_wp2_with (first
        | (go_at_call 39; refine (HP.out _).mono ?_; rintro e w1 ⟨rfl, hb⟩; have HB2 := hid (HB.out.trans (hb.mono HB.out.size)); have c0 := HW.out _ hb 0; have c1 := HW.out _ hb 1; have c2 := HW.out _ hb 2; have c3 := HW.out _ hb 3; have HL := hid (show w.heap.size < w1.heap.size from Nat.lt_of_lt_of_le (by simp) hb.size); clear hb HP HB HW)
        | (go_at_call 40; refine (HA.out _).mono ?_; rintro e w2 ⟨rfl, hb⟩; have HB3 := hid (HB2.out.trans (hb.mono HB2.out.size)); have d2 := (hb.cell (p := ⟨w.heap.size, 2, none⟩) HL.out).trans c2; clear hb HA HB2))
    go_ret
    first
      | exact ⟨rfl, HB2.out⟩
      | exact ⟨rfl, HB3.out⟩

set_option maxHeartbeats 3200000 in
theorem cstands2 (o a b k : Int) (i : Nat) (ho1 : o ≠ 1) (ho2 : o ≠ 2) (ho3 : o ≠ 384) (hr1 : -9223372036854775808 ≤ o) (hr2 : o < 9223372036854775808) (w : World) (q : Bool) (hq : TM.may (o, a, b, k) i = q) :
    Calls Try.prog 28 #[.agg #[.int .i64 o, .int .i64 a, .int .i64 b, .int .u32 k], .int .i64 i] w fun e w' => e = .returned (.bool q) ∧ Below w.heap.size w w' := by
  have hq' : (k == 0 && (decide (0 ≤ a) && decide (a < (i : Int))) && (decide (0 ≤ b) && decide (b < (i : Int))) && TM.isA o) = q := by
    rw [← hq]
    cases hA : TM.isA o with
    | false => rw [TM.may_none ho1 ho2 hA]; simp
    | true => rw [TM.may_two hA ho3]; simp [Bool.and_assoc]
  clear hq
  obtain ⟨u, hu⟩ : ∃ u, (decide (0 ≤ a) && decide (a < (i : Int))) = u := ⟨_, rfl⟩
  obtain ⟨v, hv⟩ : ∃ v, (decide (0 ≤ b) && decide (b < (i : Int))) = v := ⟨_, rfl⟩
  obtain ⟨r, hr⟩ : ∃ r, TM.isA o = r := ⟨_, rfl⟩
  rw [hu, hv, hr] at hq'
  subst hq'
  have HB := hid (al w (.cells #[.int .i64 o, .int .i64 a, .int .i64 b, .int .u32 k] 40))
  have HP := hid (cparts o a b k 2 (by rw [if_neg (by omega), if_neg ho3]))
  have HA := hid (fun W => cahead a i u hu W)
  have HV := hid (fun W => cahead b i v hv W)
  have HR := hid (fun W => creck o hr1 hr2 r hr W)
  clear hu hv hr hr1 hr2 ho1 ho2 ho3
  have HW := hid (show ∀ w1 : World, Below (w.alloc (.cells #[.int .i64 o, .int .i64 a, .int .i64 b, .int .u32 k] 40)).heap.size (w.alloc (.cells #[.int .i64 o, .int .i64 a, .int .i64 b, .int .u32 k] 40)) w1 → ∀ j : Nat, w1.cell? ⟨w.heap.size, j, none⟩ = (w.alloc (.cells #[.int .i64 o, .int .i64 a, .int .i64 b, .int .u32 k] 40)).cell? ⟨w.heap.size, j, none⟩ from fun w1 hb j => hb.cell (p := ⟨w.heap.size, j, none⟩) (by simp))
  cases h1 : (k == 0) <;> cases u <;> cases v
  all_goals
    go_enter Try.func28, Try.ntmps28
    go_wp2_with (first
        | (go_at_call 39; refine (HP.out _).mono ?_; rintro e w1 ⟨rfl, hb⟩; have HB2 := hid (HB.out.trans (hb.mono HB.out.size)); have c0 := HW.out _ hb 0; have c1 := HW.out _ hb 1; have c2 := HW.out _ hb 2; have c3 := HW.out _ hb 3; have HL := hid (show w.heap.size < w1.heap.size from Nat.lt_of_lt_of_le (by simp) hb.size); clear hb HP HB HW)
        | (go_at_call 40; refine (HA.out _).mono ?_; rintro e w2 ⟨rfl, hb⟩; have HB3 := hid (HB2.out.trans (hb.mono HB2.out.size)); have d0 := (hb.cell (p := ⟨w.heap.size, 0, none⟩) HL.out).trans c0; have d2 := (hb.cell (p := ⟨w.heap.size, 2, none⟩) HL.out).trans c2; have HL2 := hid (Nat.lt_of_lt_of_le HL.out hb.size); clear hb HA HB2)
        | (go_at_call 40; refine (HV.out _).mono ?_; rintro e w3 ⟨rfl, hb⟩; have HB4 := hid (HB3.out.trans (hb.mono HB3.out.size)); have e0 := (hb.cell (p := ⟨w.heap.size, 0, none⟩) HL2.out).trans d0; clear hb HV HB3)
        | (go_at_call 41; refine (HR.out _).mono ?_; rintro e w4 ⟨rfl, hb⟩; have HB5 := hid (HB4.out.trans (hb.mono HB4.out.size)); clear hb HR HB4))
    go_ret
    first
      | exact ⟨rfl, HB2.out⟩
      | exact ⟨rfl, HB3.out⟩
      | exact ⟨rfl, HB4.out⟩
      | exact ⟨by simp, HB5.out⟩
theorem cstands (o a b k : Int) (ok : TM.okN (o, a, b, k)) (i : Nat) (w : World) (q : Bool) (hq : TM.may (o, a, b, k) i = q) :
    Calls Try.prog 28 #[.agg #[.int .i64 o, .int .i64 a, .int .i64 b, .int .u32 k], .int .i64 i] w fun e w' => e = .returned (.bool q) ∧ Below w.heap.size w w' := by
  by_cases h12 : o = 1 ∨ o = 2
  · exact cstands0 o a b k h12 i w q hq
  · by_cases h3 : o = 384
    · subst h3; exact cstands1 a b k i w q hq
    · exact cstands2 o a b k i (by omega) (by omega) h3 ok.1.1 ok.1.2 w q hq
end Go.Proofs.Ytapbeffjnpgglab.TB
