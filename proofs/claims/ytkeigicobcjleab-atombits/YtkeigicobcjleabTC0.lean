/-
  The program's parts, ahead, reckoned, stands of layer 11, as walks over the Go text.
-/
import Derived.Test.YtkeigicobcjleabTerBase
import Derived.Test.YtkeigicobcjleabH5
import Derived.Test.YtkeigicobcjleabT2
import Derived.Test.YtkeigicobcjleabT3
import Derived.Test.YtkeigicobcjleabTerLawO
import Derived.Test.YtkeigicobcjleabTerPool
namespace Go.Proofs.Ytkeigicobcjleab.TB
open Go.ChangeShapes Go.WideShapes Go.ChangeAt Go.RowKit
open Go.Sort hiding Below
set_option linter.unusedVariables false
set_option maxRecDepth 100000

set_option maxHeartbeats 1600000 in
set_option maxRecDepth 100000 in
theorem cparts (o a b k : Int) (z : Int) (hz : (if o = 1 ∨ o = 2 then 0 else if o = 384 then 1 else 2 : Int) = z) (w : World) :
    Calls Try.prog 45 #[.agg #[.int .i64 o, .int .i64 a, .int .i64 b, .int .u32 k]] w fun e w' => e = .returned (.int .i64 z) ∧ Below w.heap.size w w' := by
  have HB := hid (al w (.cells #[.int .i64 o, .int .i64 a, .int .i64 b, .int .u32 k] 28))
  by_cases h1 : o = 1
  · subst h1
    obtain rfl : (0 : Int) = z := by rw [← hz]; decide
    go_enter Try.func45, Try.ntmps45
    go_wp2
    go_ret
    exact ⟨rfl, HB.out⟩
  · by_cases h2 : o = 2
    · subst h2
      obtain rfl : (0 : Int) = z := by rw [← hz]; decide
      go_enter Try.func45, Try.ntmps45
      go_wp2
      go_ret
      exact ⟨rfl, HB.out⟩
    · by_cases h3 : o = 384
      · subst h3
        obtain rfl : (1 : Int) = z := by rw [← hz]; decide
        go_enter Try.func45, Try.ntmps45
        go_wp2
        go_ret
        exact ⟨rfl, HB.out⟩
      · obtain rfl : (2 : Int) = z := by rw [← hz, if_neg (by omega), if_neg h3]
        have d1 : (o == 1) = false := beq_eq_false_iff_ne.2 h1
        have d2 : (o == 2) = false := beq_eq_false_iff_ne.2 h2
        have d3 : (o == 384) = false := beq_eq_false_iff_ne.2 h3
        clear h1 h2 h3 hz
        go_enter Try.func45, Try.ntmps45
        go_wp2
        go_ret
        exact ⟨rfl, HB.out⟩
set_option maxHeartbeats 1600000 in
set_option maxRecDepth 100000 in
theorem cahead (p i : Int) (q : Bool) (hq : (decide (0 ≤ p) && decide (p < i)) = q) (w : World) :
    Calls Try.prog 46 #[.int .i64 p, .int .i64 i] w fun e w' => e = .returned (.bool q) ∧ Below w.heap.size w w' := by
  subst hq
  have HB := hid (Below.refl w.heap.size w)
  cases h1 : decide (0 ≤ p) <;> cases h2 : decide (p < i)
  all_goals
    go_enter Try.func46, Try.ntmps46
    go_wp2
    go_ret
    exact ⟨rfl, HB.out⟩
theorem ok_isA (o : Int) (h1 : -9223372036854775808 ≤ o) (h2 : o < 9223372036854775808) : WM.ok (wrap64 (o - 256)) 1 = TM.isA o := by
  have hw : wrap64 (o - 256) = o - 256 ∨ (o < -9223372036854775552 ∧ wrap64 (o - 256) = o - 256 + 18446744073709551616) := by
    unfold wrap64; omega
  have hA : TM.isA o = decide (o = 256 ∨ o = 272 ∨ o = 288 ∨ o = 304 ∨ o = 320 ∨ o = 336 ∨ o = 352 ∨ o = 368 ∨ o = 384 ∨ o = 416) := by
    rw [Bool.eq_iff_iff, TM.isA_iff, decide_eq_true_eq]
  rw [hA, Bool.eq_iff_iff, decide_eq_true_eq]
  generalize wrap64 (o - 256) = z at hw
  unfold WM.ok
  simp only [Bool.or_eq_true, beq_iff_eq, Bool.and_eq_true, bne_iff_ne]
  omega
set_option maxHeartbeats 1600000 in
set_option maxRecDepth 100000 in
theorem creck (o : Int) (h1 : -9223372036854775808 ≤ o) (h2 : o < 9223372036854775808) (q : Bool) (hq : TM.isA o = q) (w : World) :
    Calls Try.prog 47 #[.int .i64 o] w fun e w' => e = .returned (.bool q) ∧ Below w.heap.size w w' := by
  have HS := hid (ok_isA o h1 h2)
  have HB := hid (Below.refl w.heap.size w)
  have HQ := hid hq
  clear hq h1 h2
  go_enter Try.func47, Try.ntmps47
  go_wp2_with (go_at_call 54; refine (WB.alu_any _ 0 1 (by omega) (by omega) (by omega) _).mono ?_; rintro e w1 ⟨rfl, rfl⟩)
  go_ret
  exact ⟨by rw [HS.out, HQ.out]; rfl, HB.out⟩

set_option maxHeartbeats 1600000 in
set_option maxRecDepth 100000 in
theorem cstands0 (o a b k : Int) (ho : o = 1 ∨ o = 2) (i : Nat) (w : World) (q : Bool) (hq : TM.may (o, a, b, k) i = q) :
    Calls Try.prog 38 #[.agg #[.int .i64 o, .int .i64 a, .int .i64 b, .int .u32 k], .int .i64 i] w fun e w' => e = .returned (.bool q) ∧ Below w.heap.size w w' := by
  have HB := hid (al w (.cells #[.int .i64 o, .int .i64 a, .int .i64 b, .int .u32 k] 28))
  have HP := hid (cparts o a b k 0 (by rw [if_pos ho]))
  rcases ho with rfl | rfl
  · rw [TM.may_num rfl] at hq
    subst hq
    simp only
    cases h1 : (a == 0) <;> cases h2 : (b == 0)
    all_goals
      go_enter Try.func38, Try.ntmps38
      go_wp2_with (go_at_call 45; refine (HP.out _).mono ?_; rintro e w1 ⟨rfl, hb⟩; have HB2 := hid (HB.out.trans (hb.mono HB.out.size)); have c0 := hb.cell (p := ⟨w.heap.size, 0, none⟩) (by simp); have c1 := hb.cell (p := ⟨w.heap.size, 1, none⟩) (by simp); have c2 := hb.cell (p := ⟨w.heap.size, 2, none⟩) (by simp); have c3 := hb.cell (p := ⟨w.heap.size, 3, none⟩) (by simp); clear hb HP HB)
      go_ret
      exact ⟨rfl, HB2.out⟩
  · rw [TM.may_word rfl] at hq
    subst hq
    simp only
    have e15 : decide (k ≤ 15) = decide (k < 16) := decide_eq_decide.2 (by omega)
    rw [e15]
    cases h1 : (a == 0) <;> cases h2 : (b == 0) <;> cases h3 : decide (k < 16)
    all_goals
      go_enter Try.func38, Try.ntmps38
      go_wp2_with (go_at_call 45; refine (HP.out _).mono ?_; rintro e w1 ⟨rfl, hb⟩; have HB2 := hid (HB.out.trans (hb.mono HB.out.size)); have c0 := hb.cell (p := ⟨w.heap.size, 0, none⟩) (by simp); have c1 := hb.cell (p := ⟨w.heap.size, 1, none⟩) (by simp); have c2 := hb.cell (p := ⟨w.heap.size, 2, none⟩) (by simp); have c3 := hb.cell (p := ⟨w.heap.size, 3, none⟩) (by simp); clear hb HP HB)
      go_ret
      exact ⟨rfl, HB2.out⟩

set_option maxHeartbeats 1600000 in
theorem cstands1 (a b k : Int) (i : Nat) (w : World) (q : Bool) (hq : TM.may (384, a, b, k) i = q) :
    Calls Try.prog 38 #[.agg #[.int .i64 384, .int .i64 a, .int .i64 b, .int .u32 k], .int .i64 i] w fun e w' => e = .returned (.bool q) ∧ Below w.heap.size w w' := by
  rw [TM.may_neg rfl] at hq
  simp only at hq
  have hq' : (k == 0 && (decide (0 ≤ a) && decide (a < (i : Int))) && b == 0) = q := by rw [← hq]; simp [Bool.and_assoc]
  clear hq
  obtain ⟨u, hu⟩ : ∃ u, (decide (0 ≤ a) && decide (a < (i : Int))) = u := ⟨_, rfl⟩
  rw [hu] at hq'
  subst hq'
  have HB := hid (al w (.cells #[.int .i64 384, .int .i64 a, .int .i64 b, .int .u32 k] 28))
  have HP := hid (cparts 384 a b k 1 rfl)
  have HA := hid (fun W => cahead a i u hu W)
  clear hu
  have HW := hid (show ∀ w1 : World, Below (w.alloc (.cells #[.int .i64 384, .int .i64 a, .int .i64 b, .int .u32 k] 28)).heap.size (w.alloc (.cells #[.int .i64 384, .int .i64 a, .int .i64 b, .int .u32 k] 28)) w1 → ∀ j : Nat, w1.cell? ⟨w.heap.size, j, none⟩ = (w.alloc (.cells #[.int .i64 384, .int .i64 a, .int .i64 b, .int .u32 k] 28)).cell? ⟨w.heap.size, j, none⟩ from fun w1 hb j => hb.cell (p := ⟨w.heap.size, j, none⟩) (by simp))
  cases h1 : (k == 0) <;> cases u <;> cases h2 : (b == 0)
  all_goals
    go_enter Try.func38, Try.ntmps38
    go_wp2_with (first
        | (go_at_call 45; refine (HP.out _).mono ?_; rintro e w1 ⟨rfl, hb⟩; have HB2 := hid (HB.out.trans (hb.mono HB.out.size)); have c0 := HW.out _ hb 0; have c1 := HW.out _ hb 1; have c2 := HW.out _ hb 2; have c3 := HW.out _ hb 3; have HL := hid (show w.heap.size < w1.heap.size from Nat.lt_of_lt_of_le (by simp) hb.size); clear hb HP HB HW)
        | (go_at_call 46; refine (HA.out _).mono ?_; rintro e w2 ⟨rfl, hb⟩; have HB3 := hid (HB2.out.trans (hb.mono HB2.out.size)); have d2 := (hb.cell (p := ⟨w.heap.size, 2, none⟩) HL.out).trans c2; clear hb HA HB2))
    go_ret
    first
      | exact ⟨rfl, HB2.out⟩
      | exact ⟨rfl, HB3.out⟩

set_option maxHeartbeats 3200000 in
theorem cstands2 (o a b k : Int) (i : Nat) (ho1 : o ≠ 1) (ho2 : o ≠ 2) (ho3 : o ≠ 384) (hr1 : -9223372036854775808 ≤ o) (hr2 : o < 9223372036854775808) (w : World) (q : Bool) (hq : TM.may (o, a, b, k) i = q) :
    Calls Try.prog 38 #[.agg #[.int .i64 o, .int .i64 a, .int .i64 b, .int .u32 k], .int .i64 i] w fun e w' => e = .returned (.bool q) ∧ Below w.heap.size w w' := by
  have hq' : (k == 0 && (decide (0 ≤ a) && decide (a < (i : Int))) && (decide (0 ≤ b) && decide (b < (i : Int))) && TM.isA o) = q := by
    rw [← hq]
    cases hA : TM.isA o with
    | false => rw [TM.may_none ho1 ho2 hA]; simp
    | true => rw [TM.may_two hA ho3]; simp [Bool.and_assoc]
  clear hq
  obtain ⟨u, hu⟩ : ∃ u, (decide (0 ≤ a) && decide (a < (i : Int))) = u := ⟨_, rfl⟩
  obtain ⟨v, hv⟩ : ∃ v, (decide (0 ≤ b) && decide (b < (i : Int))) = v := ⟨_, rfl⟩
  obtain ⟨r, hr⟩ : ∃ r, TM.isA o = r := ⟨_, rfl⟩
  rw [hu, hv, hr] at hq'
  subst hq'
  have HB := hid (al w (.cells #[.int .i64 o, .int .i64 a, .int .i64 b, .int .u32 k] 28))
  have HP := hid (cparts o a b k 2 (by rw [if_neg (by omega), if_neg ho3]))
  have HA := hid (fun W => cahead a i u hu W)
  have HV := hid (fun W => cahead b i v hv W)
  have HR := hid (fun W => creck o hr1 hr2 r hr W)
  clear hu hv hr hr1 hr2 ho1 ho2 ho3
  have HW := hid (show ∀ w1 : World, Below (w.alloc (.cells #[.int .i64 o, .int .i64 a, .int .i64 b, .int .u32 k] 28)).heap.size (w.alloc (.cells #[.int .i64 o, .int .i64 a, .int .i64 b, .int .u32 k] 28)) w1 → ∀ j : Nat, w1.cell? ⟨w.heap.size, j, none⟩ = (w.alloc (.cells #[.int .i64 o, .int .i64 a, .int .i64 b, .int .u32 k] 28)).cell? ⟨w.heap.size, j, none⟩ from fun w1 hb j => hb.cell (p := ⟨w.heap.size, j, none⟩) (by simp))
  cases h1 : (k == 0) <;> cases u <;> cases v
  all_goals
    go_enter Try.func38, Try.ntmps38
    go_wp2_with (first
        | (go_at_call 45; refine (HP.out _).mono ?_; rintro e w1 ⟨rfl, hb⟩; have HB2 := hid (HB.out.trans (hb.mono HB.out.size)); have c0 := HW.out _ hb 0; have c1 := HW.out _ hb 1; have c2 := HW.out _ hb 2; have c3 := HW.out _ hb 3; have HL := hid (show w.heap.size < w1.heap.size from Nat.lt_of_lt_of_le (by simp) hb.size); clear hb HP HB HW)
        | (go_at_call 46; refine (HA.out _).mono ?_; rintro e w2 ⟨rfl, hb⟩; have HB3 := hid (HB2.out.trans (hb.mono HB2.out.size)); have d0 := (hb.cell (p := ⟨w.heap.size, 0, none⟩) HL.out).trans c0; have d2 := (hb.cell (p := ⟨w.heap.size, 2, none⟩) HL.out).trans c2; have HL2 := hid (Nat.lt_of_lt_of_le HL.out hb.size); clear hb HA HB2)
        | (go_at_call 46; refine (HV.out _).mono ?_; rintro e w3 ⟨rfl, hb⟩; have HB4 := hid (HB3.out.trans (hb.mono HB3.out.size)); have e0 := (hb.cell (p := ⟨w.heap.size, 0, none⟩) HL2.out).trans d0; clear hb HV HB3)
        | (go_at_call 47; refine (HR.out _).mono ?_; rintro e w4 ⟨rfl, hb⟩; have HB5 := hid (HB4.out.trans (hb.mono HB4.out.size)); clear hb HR HB4))
    go_ret
    first
      | exact ⟨rfl, HB2.out⟩
      | exact ⟨rfl, HB3.out⟩
      | exact ⟨rfl, HB4.out⟩
      | exact ⟨by simp, HB5.out⟩
theorem cstands (o a b k : Int) (ok : TM.okN (o, a, b, k)) (i : Nat) (w : World) (q : Bool) (hq : TM.may (o, a, b, k) i = q) :
    Calls Try.prog 38 #[.agg #[.int .i64 o, .int .i64 a, .int .i64 b, .int .u32 k], .int .i64 i] w fun e w' => e = .returned (.bool q) ∧ Below w.heap.size w w' := by
  by_cases h12 : o = 1 ∨ o = 2
  · exact cstands0 o a b k h12 i w q hq
  · by_cases h3 : o = 384
    · subst h3; exact cstands1 a b k i w q hq
    · exact cstands2 o a b k i (by omega) (by omega) h3 ok.1.1 ok.1.2 w q hq
end Go.Proofs.Ytkeigicobcjleab.TB
namespace Go.Proofs.Ytkeigicobcjleab.TB
open Go.ChangeShapes Go.WideShapes Go.ChangeAt Go.RowKit
open Go.Sort hiding Below
set_option linter.unusedVariables false
set_option maxRecDepth 100000

set_option maxHeartbeats 3200000 in
set_option maxRecDepth 100000 in
theorem ccheck (A : Option Addr) (n cap : Nat) (l : List TM.N) (hln : l.length = n) (hn : n ≤ 9223372036854775807) (ok : ∀ x ∈ l, TM.okN x) (w : World) (hl : LiesN w A l) (p e : Int) (hc : TM.chk l = (p, e)) :
    Calls Try.prog 34 #[.slice A n cap] w fun r w' => r = .returned (.tuple #[.int .i64 p, .int .i64 e]) ∧ Below w.heap.size w w' := by
  by_cases h65 : 65536 < n
  · have e1 : TM.chk l = (0, 5) := by unfold TM.chk; rw [if_pos (by omega)]
    rw [e1] at hc
    injection hc with h1 h2
    subst h1 h2
    have d : decide (65536 < (n : Int)) = true := decide_eq_true (by omega)
    clear hl hln hn ok e1 h65
    go_enter Try.func34, Try.ntmps34
    go_wp2
    go_ret2
    exact ⟨rfl, Below.refl _ _⟩
  · have d : decide (65536 < (n : Int)) = false := decide_eq_false (by omega)
    have hn2 : n ≤ 65536 := by omega
    have HH := hid (And.intro hln (And.intro ok (And.intro hl hc)))
    have HB := hid (Below.refl w.heap.size w)
    clear hln ok hl hc h65
    go_enter Try.func34, Try.ntmps34
    go_wp2
    go_loopw [11] (fun i wr => ∃ k : Nat, k ≤ n ∧ i = .int .i64 k ∧ Hid ((∀ j, j < k → TM.may (TM.nat0 l j) j = true) ∧ Below w.heap.size w wr)) (fun i _ => n - (intOf i).toNat)
    case atStart => exact ⟨0, Nat.zero_le _, rfl, fun j hj => absurd hj (Nat.not_lt_zero _), HB.out⟩
    case round =>
      clear HB
      obtain ⟨k, hk, rfl, HR⟩ := hrel
      by_cases hlt : k < n
      · have i2 : (k : Int) < (n : Int) := by omega
        have hkl : k < l.length := by rw [HH.out.1]; exact hlt
        obtain ⟨b, o, rfl, hly⟩ := HH.out.2.2.1.ly (by omega)
        have h0x := TM.nat0_eq hkl
        have hok := HH.out.2.1 _ (List.getElem_mem hkl)
        obtain ⟨q0, q1, q2, q3⟩ := (hly.below HR.out.2).2 k hkl
        obtain ⟨x, hx⟩ : ∃ x, l[k] = x := ⟨_, rfl⟩
        rw [hx] at q0 q1 q2 q3 h0x hok
        clear hx hly
        obtain ⟨xo, xa, xb, xk⟩ := x
        simp only at q0 q1 q2 q3
        cases hm : TM.may (xo, xa, xb, xk) k with
        | true =>
          have HC := hid (fun W => cstands xo xa xb xk hok k W true hm)
          have HM := hid (show ∀ j, j < k + 1 → TM.may (TM.nat0 l j) j = true from fun j hj => by
            by_cases e : j = k
            · subst e; rw [h0x]; exact hm
            · exact HR.out.1 j (by omega))
          clear hm h0x hok
          go_wp2_with fail
          refine (HC.out _).mono ?_
          rintro e w1 ⟨rfl, hb⟩
          have HB := stp (stp (hid HR.out.2) (al _ _)) hb
          clear hb HR q0 q1 q2 q3 HC
          go_wp2
          go_roundw
          case rel => exact ⟨k + 1, by omega, by go_num, HM.out, HB.out⟩
          case measure => simp [intOf]; omega
        | false =>
          have HC := hid (fun W => cstands xo xa xb xk hok k W false hm)
          have HE := hid (show p = k ∧ e = 3 from by
            have e1 : TM.chk l = ((k : Int), 3) := by
              have hl0 := HH.out.1
              unfold TM.chk
              rw [if_neg (by omega), TM.bad_some.2 ⟨hkl, by rw [h0x]; exact hm, HR.out.1⟩]
            have := HH.out.2.2.2
            rw [e1] at this
            injection this with h1 h2
            exact ⟨h1.symm, h2.symm⟩)
          clear hm h0x hok
          go_wp2_with fail
          refine (HC.out _).mono ?_
          rintro e w1 ⟨rfl, hb⟩
          have HB := stp (stp (hid HR.out.2) (al _ _)) hb
          clear hb HR q0 q1 q2 q3 HC
          obtain ⟨rfl, rfl⟩ := HE.out
          clear HE
          go_wp2
          go_ret2
          exact ⟨rfl, HB.out⟩
      · obtain rfl : k = n := by omega
        have HE := hid (show p = 0 ∧ e = 0 from by
          have e1 : TM.chk l = (0, 0) := by
            have hl0 := HH.out.1
            unfold TM.chk
            rw [if_neg (by omega), TM.bad_none.2 (fun i hi => HR.out.1 i (by omega))]
          have := HH.out.2.2.2
          rw [e1] at this
          injection this with h1 h2
          exact ⟨h1.symm, h2.symm⟩)
        have HB := hid HR.out.2
        obtain ⟨rfl, rfl⟩ := HE.out
        clear HE HR
        go_wp2
        go_ret2
        exact ⟨rfl, HB.out⟩

end Go.Proofs.Ytkeigicobcjleab.TB
namespace Go.Proofs.Ytkeigicobcjleab.TB
open Go.ChangeShapes Go.WideShapes Go.ChangeAt Go.RowKit
open Go.Sort hiding Below
set_option linter.unusedVariables false
set_option maxRecDepth 100000

set_option maxHeartbeats 6400000 in
theorem cup32 (A : Option Addr) (n cap : Nat) (L : List TM.N) (hLn : L.length = n) (hL : TM.Row L) (C : Nat) (V : Nat → Int) (w : World) (hl : LiesN w A L)
    (HT : ∀ k (hk : k < L.length) W, Below w.heap.size w W → Calls Try.prog 53 #[.agg #[.int .i64 L[k].1, .int .i64 L[k].2.1, .int .i64 L[k].2.2.1, .int .u32 L[k].2.2.2], .int .u32 (if L[k].1 ≤ 2 then 0 else V L[k].2.1.toNat), .int .u32 (if L[k].1 ≤ 2 ∨ L[k].1 = 384 then 0 else V L[k].2.2.1.toNat), .pointer (some ⟨C, 0, none⟩)] W fun e w' => e = .returned (.int .u32 (V k)) ∧ Below W.heap.size W w') :
    Calls Try.prog 52 #[.slice A n cap, .func (.func 53) #[] #[.pointer (some ⟨C, 0, none⟩)]] w fun e w' => ∃ g, e = .returned (.slice (some ⟨g, 0, none⟩) n n) ∧ Row w' g n (fun j => .int .u32 (V j)) ∧ Below w.heap.size w w' := by
  have hn := hL.1
  rw [hLn] at hn
  obtain ⟨i0, hi, hz0, hz1, hz2⟩ := info_parts infou
  have HH := hid (And.intro hLn (And.intro hL (And.intro hl HT)))
  clear hLn hL hl HT
  go_enter Try.func52, Try.ntmps52
  go_wp2_with (at_make; refine wpList_make_full _ rfl _ _ 62 rfl w.heap.size 22 i0 (.int .u32 0) 1 Try.underlying62 hi hz0 hz1 .i64 .i64 n n n rfl rfl rfl rfl ?c1 ?c2 (Nat.le_refl _) ?_)
  case c1 => rw [hz2]; omega
  case c2 => unfold maxLen; omega
  intro wm hown hgrow
  have HB0 := hid (show Below w.heap.size w wm from (Below.refl _ _).grown hgrow (Nat.le_refl _) (by intro k hk; cases hk))
  have HN := hid (show Row wm w.heap.size n (fun _ => .int .u32 0) from Row.of_own hown (fun j hj => made_get (.int .u32 0) n j hj) (hown.lt _ rfl).2)
  clear hown hgrow
  go_wp2
  go_loopw [15] (fun i wr => ∃ k : Nat, k ≤ n ∧ i = .int .i64 k ∧ Hid (Row wr w.heap.size n (fun j => .int .u32 (if j < k then V j else 0)) ∧ Below w.heap.size w wr)) (fun i _ => n - (intOf i).toNat)
  case atStart => exact ⟨0, Nat.zero_le _, rfl, HN.out.congr (fun j hj => by rw [if_neg (by omega)]), HB0.out⟩
  case round =>
    clear HN HB0
    obtain ⟨k, hk, rfl, HR⟩ := hrel
    by_cases hlt : k < n
    · have i2 : (k : Int) < (n : Int) := by omega
      have hkl : k < L.length := by rw [HH.out.1]; exact hlt
      obtain ⟨b, o, rfl, hly⟩ := HH.out.2.2.1.ly (by omega)
      have hm := HH.out.2.1.2 k hkl
      have h0x := TM.nat0_eq hkl
      rw [h0x] at hm
      obtain ⟨q0, q1, q2, q3⟩ := (hly.below HR.out.2).2 k hkl
      have HT := HH.out.2.2.2 k hkl
      have HG := hid (show w.heap.size < wr.heap.size from HR.out.1.lt)
      obtain ⟨x, hx⟩ : ∃ x, L[k] = x := ⟨_, rfl⟩
      rw [hx] at q0 q1 q2 q3 h0x hm HT
      clear hx hly h0x
      obtain ⟨xo, xa, xb, xk⟩ := x
      simp only at q0 q1 q2 q3 HT
      have hmo := TM.may_ok hm
      simp only at hmo
      clear hm
      have HA := hid (al wr (.cells #[.int .i64 xo, .int .i64 xa, .int .i64 xb, .int .u32 xk] 28))
      have HW := hid (fun w1 (hb : Below (wr.alloc (.cells #[.int .i64 xo, .int .i64 xa, .int .i64 xb, .int .u32 xk] 28)).heap.size (wr.alloc (.cells #[.int .i64 xo, .int .i64 xa, .int .i64 xb, .int .u32 xk] 28)) w1) => (show NAt w1 wr.heap.size (xo, xa, xb, xk) from (NAt.new wr xo xa xb xk).below hb))
      have HRW := hid (fun W' (hb : Below wr.heap.size wr W') => (show Row W' w.heap.size n (fun j => .int .u32 (if j < k then V j else 0)) from HR.out.1.below hb))
      have HBW := hid (fun W' (hb : Below wr.heap.size wr W') => (show Below w.heap.size w W' from HR.out.2.trans (hb.mono HR.out.2.size)))
      have HNX := hid (fun W' (hb : Row W' w.heap.size n (fun j => .int .u32 (if j < k then V j else 0))) => (show Row (W'.setCell ⟨w.heap.size, k, none⟩ (.int .u32 (V k))) w.heap.size n (fun j => .int .u32 (if j < k + 1 then V j else 0)) from (hb.set k hlt _).congr (fun j hj => by
        by_cases e : j = k
        · subst e; rw [if_pos rfl, if_pos (by omega)]
        · rw [if_neg e]
          by_cases e2 : j < k
          · rw [if_pos e2, if_pos (by omega)]
          · rw [if_neg e2, if_neg (by omega)])))
      clear HR
      by_cases h2 : xo ≤ 2
      · have HP := hid (fun W => cparts xo xa xb xk 0 (by rw [if_pos (by rcases hmo with h | h | h | h <;> first | omega | (have := TM.isA_12 h.1; omega))]) W)
        rw [if_pos h2, if_pos (.inl h2)] at HT
        have HTk := hid HT
        clear HT hmo h2
        go_wp2_with fail
        refine (HP.out _).mono ?_
        rintro e w1 ⟨rfl, hb⟩
        have HB1 := hid (HA.out.trans (hb.mono HA.out.size))
        obtain ⟨c0, c1, c2, c3, _⟩ := (HW.out _ hb).cells
        have HN1 := hid (HW.out _ hb)
        clear hb HA HW q0 q1 q2 q3
        go_wp2_with fail
        refine (HP.out _).mono ?_
        rintro e w2 ⟨rfl, hb⟩
        have HB2 := hid (HB1.out.trans (hb.mono HB1.out.size))
        clear c0 c1 c2 c3
        obtain ⟨c0, c1, c2, c3, _⟩ := (HN1.out.below hb).cells
        clear hb HN1 HB1
        go_wp2_with fail
        refine (HTk.out _ (HBW.out _ HB2.out)).mono ?_
        rintro e w3 ⟨rfl, hb⟩
        have HB3 := hid (HB2.out.trans (hb.mono HB2.out.size))
        have HR3 := hid (HRW.out _ HB3.out)
        have f3 := HR3.out.froz k hlt
        have v3 := HR3.out.cell k hlt
        simp only [Nat.lt_irrefl, if_false] at v3
        have HZ := hid (And.intro (HNX.out _ HR3.out) (Below.setCell (HBW.out _ HB3.out) (p := ⟨w.heap.size, k, none⟩) (Nat.le_refl _) (.int .u32 (V k))))
        clear hb c0 c1 c2 c3 HB2 HP HTk HRW HBW HNX HR3
        go_wp2
        go_roundw
        case rel => exact ⟨k + 1, by omega, by go_num, HZ.out⟩
        case measure => simp [intOf]; omega
      · obtain ⟨a', rfl⟩ : ∃ a' : Nat, xa = a' := ⟨xa.toNat, by rcases hmo with h | h | h | h <;> omega⟩
        have hak : a' < k := by rcases hmo with h | h | h | h <;> omega
        have han : (a' : Int) < (n : Int) := by omega
        by_cases h3 : xo = 384
        · subst h3
          have HP := hid (fun W => cparts 384 (a' : Int) xb xk 1 rfl W)
          rw [if_neg h2, if_pos (.inr rfl), Int.toNat_natCast] at HT
          have HTk := hid HT
          clear HT hmo h2
          go_wp2_with fail
          refine (HP.out _).mono ?_
          rintro e w1 ⟨rfl, hb⟩
          have HB1 := hid (HA.out.trans (hb.mono HA.out.size))
          obtain ⟨c0, c1, c2, c3, _⟩ := (HW.out _ hb).cells
          have HN1 := hid (HW.out _ hb)
          have r1 := (HRW.out _ HB1.out).cell a' (by omega)
          simp only [if_pos hak] at r1
          clear hb HA HW q0 q1 q2 q3
          go_wp2_with fail
          refine (HP.out _).mono ?_
          rintro e w2 ⟨rfl, hb⟩
          have HB2 := hid (HB1.out.trans (hb.mono HB1.out.size))
          clear c0 c1 c2 c3 r1
          obtain ⟨c0, c1, c2, c3, _⟩ := (HN1.out.below hb).cells
          clear hb HN1 HB1
          go_wp2_with fail
          refine (HTk.out _ (HBW.out _ HB2.out)).mono ?_
          rintro e w3 ⟨rfl, hb⟩
          have HB3 := hid (HB2.out.trans (hb.mono HB2.out.size))
          have HR3 := hid (HRW.out _ HB3.out)
          have f3 := HR3.out.froz k hlt
          have v3 := HR3.out.cell k hlt
          simp only [Nat.lt_irrefl, if_false] at v3
          have HZ := hid (And.intro (HNX.out _ HR3.out) (Below.setCell (HBW.out _ HB3.out) (p := ⟨w.heap.size, k, none⟩) (Nat.le_refl _) (.int .u32 (V k))))
          clear hb c0 c1 c2 c3 HB2 HP HTk HRW HBW HNX HR3
          go_wp2
          go_roundw
          case rel => exact ⟨k + 1, by omega, by go_num, HZ.out⟩
          case measure => simp [intOf]; omega
        · have HP := hid (fun W => cparts xo (a' : Int) xb xk 2 (by rw [if_neg (by omega), if_neg h3]) W)
          obtain ⟨b', rfl⟩ : ∃ b' : Nat, xb = b' := ⟨xb.toNat, by rcases hmo with h | h | h | h <;> omega⟩
          have hbk : b' < k := by rcases hmo with h | h | h | h <;> omega
          have hbn : (b' : Int) < (n : Int) := by omega
          rw [if_neg h2, if_neg (by omega), Int.toNat_natCast, Int.toNat_natCast] at HT
          have HTk := hid HT
          clear HT hmo h2 h3
          go_wp2_with fail
          refine (HP.out _).mono ?_
          rintro e w1 ⟨rfl, hb⟩
          have HB1 := hid (HA.out.trans (hb.mono HA.out.size))
          obtain ⟨c0, c1, c2, c3, _⟩ := (HW.out _ hb).cells
          have HN1 := hid (HW.out _ hb)
          have r1 := (HRW.out _ HB1.out).cell a' (by omega)
          simp only [if_pos hak] at r1
          clear hb HA HW q0 q1 q2 q3
          go_wp2_with fail
          refine (HP.out _).mono ?_
          rintro e w2 ⟨rfl, hb⟩
          have HB2 := hid (HB1.out.trans (hb.mono HB1.out.size))
          clear c0 c1 c2 c3 r1
          obtain ⟨c0, c1, c2, c3, _⟩ := (HN1.out.below hb).cells
          have r2 := (HRW.out _ HB2.out).cell b' (by omega)
          simp only [if_pos hbk] at r2
          clear hb HN1 HB1
          go_wp2_with fail
          refine (HTk.out _ (HBW.out _ HB2.out)).mono ?_
          rintro e w3 ⟨rfl, hb⟩
          have HB3 := hid (HB2.out.trans (hb.mono HB2.out.size))
          have HR3 := hid (HRW.out _ HB3.out)
          have f3 := HR3.out.froz k hlt
          have v3 := HR3.out.cell k hlt
          simp only [Nat.lt_irrefl, if_false] at v3
          have HZ := hid (And.intro (HNX.out _ HR3.out) (Below.setCell (HBW.out _ HB3.out) (p := ⟨w.heap.size, k, none⟩) (Nat.le_refl _) (.int .u32 (V k))))
          clear hb c0 c1 c2 c3 r2 HB2 HP HTk HRW HBW HNX HR3
          go_wp2
          go_roundw
          case rel => exact ⟨k + 1, by omega, by go_num, HZ.out⟩
          case measure => simp [intOf]; omega
    · obtain rfl : k = n := by omega
      have HZ := hid (And.intro (HR.out.1.congr (U := fun j => .int .u32 (V j)) (fun j hj => by rw [if_pos hj])) HR.out.2)
      clear HR
      go_wp2
      go_ret
      exact ⟨_, rfl, HZ.out⟩

end Go.Proofs.Ytkeigicobcjleab.TB
namespace Go.Proofs.Ytkeigicobcjleab.TM
set_option linter.unusedVariables false
theorem nat0_take {l : List N} {m i : Nat} (h : i < m) (hm : m ≤ l.length) : nat0 (l.take m) i = nat0 l i := by
  rw [nat0_eq (by rw [List.length_take]; omega), nat0_eq (by omega), List.getElem_take]
theorem row_take {l : List N} (hl : Row l) {m : Nat} (hm : m ≤ l.length) : Row (l.take m) := by
  have hlen : (l.take m).length = m := by rw [List.length_take]; omega
  refine ⟨by have := hl.1; omega, fun i hi => ?_⟩
  rw [nat0_take (by omega) hm]; exact hl.2 i (by omega)
theorem valsF_take {l : List N} {m : Nat} (hm : m ≤ l.length) (r : List Int) : ∀ i, i ≤ m → valsF (l.take m) r i = valsF l r i := by
  intro i
  induction i with
  | zero => intro _; rfl
  | succ i ih => intro hi; rw [valsF, valsF, ih (by omega), nat0_take (by omega) hm]
theorem val_take {l : List N} {m i : Nat} (r : List Int) (h : i < m) (hm : m ≤ l.length) : val (l.take m) r i = val l r i := by
  unfold val; rw [valsF_take hm r (i + 1) (by omega)]
theorem szF_take {l : List N} {m : Nat} (hm : m ≤ l.length) : ∀ i, i ≤ m → szF (l.take m) i = szF l i := by
  intro i
  induction i with
  | zero => intro _; rfl
  | succ i ih => intro hi; rw [szF, szF, ih (by omega), nat0_take (by omega) hm]
theorem sz_take {l : List N} {m i : Nat} (h : i < m) (hm : m ≤ l.length) : sz (l.take m) i = sz l i := by
  unfold sz; rw [szF_take hm (i + 1) (by omega)]
theorem parts_if {x : N} {i : Nat} (hm : may x i = true) (v : Nat → Nat) : ((parts x).map v).sum = (if x.1 ≤ 2 then 0 else v x.2.1.toNat) + (if x.1 ≤ 2 ∨ x.1 = 384 then 0 else v x.2.2.1.toNat) := by
  unfold parts
  by_cases h : x.1 ≤ 2
  · rw [if_pos h, if_pos h, if_pos (.inl h)]; rfl
  · by_cases h3 : x.1 = 384
    · rw [if_neg h, if_pos h3, if_neg h, if_pos (.inr h3)]; simp
    · rw [if_neg h, if_neg h3, if_neg h, if_neg (by omega)]; simp
theorem sz_step {l : List N} (hl : Row l) {k : Nat} (hk : k < l.length) : sz l k = min (1 + ((if l[k].1 ≤ 2 then 0 else sz l l[k].2.1.toNat) + (if l[k].1 ≤ 2 ∨ l[k].1 = 384 then 0 else sz l l[k].2.2.1.toNat))) 1125899906842624 := by
  have hm := hl.2 k hk
  rw [sz_row hl hk]
  unfold szN
  rw [nat0_eq hk] at hm ⊢
  rw [parts_if hm]
theorem inT_trans {l : List N} (hl : Row l) {k p : Nat} (hk : k < l.length) (hp : p ∈ parts (nat0 l k)) : ∀ (d i : Nat), l.length ≤ i + d → inT l p i = true → inT l k i = true := by
  intro d
  induction d with
  | zero =>
    intro i h hi
    rcases inT_iff.1 hi with h1 | ⟨q, h1, h2, _⟩
    · subst h1; exact inT_part hl hk (inT_self l k) hp
    · omega
  | succ d ih =>
    intro i h hi
    rcases inT_iff.1 hi with h1 | ⟨q, h1, h2, h3, h4⟩
    · subst h1; exact inT_part hl hk (inT_self l k) hp
    · exact inT_iff.2 (.inr ⟨q, h1, h2, ih q (by omega) h3, h4⟩)
theorem uses_bit (l : List N) (t w : Nat) : (uses l t).testBit w = true ↔ ∃ j, j < l.length ∧ inT l t j = true ∧ (nat0 l j).1 = 2 ∧ (nat0 l j).2.2.2.toNat = w := usesK_bit l t w l.length
theorem uses_word {l : List N} (hl : Row l) {k : Nat} (hk : k < l.length) (h : l[k].1 = 2) : uses l k = 2 ^ l[k].2.2.2.toNat := by
  apply Nat.eq_of_testBit_eq
  intro w
  rw [Bool.eq_iff_iff, uses_bit, Nat.testBit_two_pow, decide_eq_true_eq]
  constructor
  · rintro ⟨j, h1, h2, h3, h4⟩
    rcases inT_down hl hk (l.length - j) j (by omega) h2 with e | ⟨p, hp, _⟩
    · subst e; rw [nat0_eq hk] at h4; exact h4
    · rw [nat0_eq hk] at hp
      unfold parts at hp
      rw [if_pos (by omega)] at hp; cases hp
  · intro e
    exact ⟨k, hk, inT_self l k, by rw [nat0_eq hk]; exact h, by rw [nat0_eq hk]; exact e⟩
theorem uses_part {l : List N} (hl : Row l) {k : Nat} (hk : k < l.length) (h : l[k].1 ≠ 2) : uses l k = (if l[k].1 ≤ 2 then 0 else uses l l[k].2.1.toNat) ||| (if l[k].1 ≤ 2 ∨ l[k].1 = 384 then 0 else uses l l[k].2.2.1.toNat) := by
  apply Nat.eq_of_testBit_eq
  intro w
  have key : (uses l k).testBit w = true ↔ ∃ p ∈ parts l[k], (uses l p).testBit w = true := by
    rw [uses_bit]
    constructor
    · rintro ⟨j, h1, h2, h3, h4⟩
      rcases inT_down hl hk (l.length - j) j (by omega) h2 with e | ⟨p, hp, h5⟩
      · subst e; rw [nat0_eq hk] at h3; exact absurd h3 h
      · rw [nat0_eq hk] at hp
        exact ⟨p, hp, (uses_bit l p w).2 ⟨j, h1, h5, h3, h4⟩⟩
    · rintro ⟨p, hp, h5⟩
      obtain ⟨j, h1, h2, h3, h4⟩ := (uses_bit l p w).1 h5
      refine ⟨j, h1, ?_, h3, h4⟩
      exact inT_trans hl hk (by rw [nat0_eq hk]; exact hp) (l.length - j) j (by omega) h2
  have hm := hl.2 k hk
  rw [Bool.eq_iff_iff, key, Nat.testBit_or, Bool.or_eq_true]
  unfold parts
  by_cases h2 : l[k].1 ≤ 2
  · rw [if_pos h2, if_pos h2, if_pos (.inl h2)]; simp
  · by_cases h3 : l[k].1 = 384
    · rw [if_neg h2, if_pos h3, if_neg h2, if_pos (.inr h3)]; simp
    · rw [if_neg h2, if_neg h3, if_neg h2, if_neg (by omega)]; simp
end Go.Proofs.Ytkeigicobcjleab.TM
namespace Go.Proofs.Ytkeigicobcjleab.TB
open Go.ChangeShapes Go.WideShapes Go.ChangeAt Go.RowKit
open Go.Sort hiding Below
set_option linter.unusedVariables false
set_option maxRecDepth 100000

theorem LiesN.take {W : World} {A : Option Addr} {L : List TM.N} (h : LiesN W A L) (m : Nat) : LiesN W A (L.take m) := by
  rcases h with h | ⟨b, o, e, h1, h2⟩
  · exact .inl (by rw [h]; simp)
  · refine .inr ⟨b, o, e, h1, fun j hj => ?_⟩
    have hj' : j < L.length := by rw [List.length_take] at hj; omega
    rw [List.getElem_take]; exact h2 j hj'

set_option maxHeartbeats 3200000 in
theorem ctell32 (L : List TM.N) (hL : TM.Row L) (ok : ∀ x ∈ L, TM.okN x) (r : List Int) (hr : R.okR r) (C k : Nat) (hk : k < L.length) (w : World) (hC : RB.Rec w C r) :
    Calls Try.prog 53 #[.agg #[.int .i64 L[k].1, .int .i64 L[k].2.1, .int .i64 L[k].2.2.1, .int .u32 L[k].2.2.2], .int .u32 (if L[k].1 ≤ 2 then 0 else TM.val L r L[k].2.1.toNat), .int .u32 (if L[k].1 ≤ 2 ∨ L[k].1 = 384 then 0 else TM.val L r L[k].2.2.1.toNat), .pointer (some ⟨C, 0, none⟩)] w fun e w' => e = .returned (.int .u32 (TM.val L r k)) ∧ Below w.heap.size w w' := by
  have hv := TM.val_row hL r hk
  have hm := TM.may_ok (hL.2 k hk)
  have hokx := ok _ (List.getElem_mem hk)
  rw [TM.nat0_eq hk] at hv hm
  have hbd := fun j => TM.val_bd ok hr j (l := L)
  obtain ⟨x, hx⟩ : ∃ x, L[k] = x := ⟨_, rfl⟩
  rw [hx] at hv hm hokx ⊢
  clear hx
  obtain ⟨xo, xa, xb, xk⟩ := x
  obtain ⟨b0, b1, b2, b3⟩ := hokx
  simp only at hm b0 b1 b2 b3 ⊢
  have HB := hid (al w (.cells #[.int .i64 xo, .int .i64 xa, .int .i64 xb, .int .u32 xk] 28))
  unfold TM.evalN at hv
  simp only at hv
  by_cases h1 : xo = 1
  · subst h1
    rw [if_pos rfl] at hv
    rw [if_pos (by omega), if_pos (by omega), hv]
    clear hm hbd
    go_enter Try.func53, Try.ntmps53
    go_wp2
    go_ret
    exact ⟨rfl, HB.out⟩
  · rw [if_neg h1] at hv
    by_cases h2 : xo = 2
    · subst h2
      rw [if_pos rfl] at hv
      rw [if_pos (by omega), if_pos (by omega)]
      obtain ⟨d, rfl⟩ : ∃ d : Nat, xk = d := ⟨xk.toNat, by omega⟩
      have hd : d < 16 := by rcases hm with h | h | h | h <;> omega
      rw [Int.toNat_natCast] at hv
      have cr := (hC.alloc (.cells #[.int .i64 2, .int .i64 xa, .int .i64 xb, .int .u32 (d : Int)] 28)).cell d hd
      rw [show R.at_ r d = TM.val L r k from hv.symm] at cr
      have i3 : (d : Int) < 16 := by omega
      clear hm hbd hv h1
      go_enter Try.func53, Try.ntmps53
      go_wp2
      go_ret
      exact ⟨rfl, HB.out⟩
    · rw [if_neg h2] at hv
      have hx2 : ¬ xo ≤ 2 := by
        rcases hm with h | h | h | h
        · omega
        · omega
        · omega
        · have := TM.isA_12 h.1; omega
      rw [if_neg hx2]
      have d1 : (xo == 1) = false := beq_eq_false_iff_ne.2 h1
      have d2 : (xo == 2) = false := beq_eq_false_iff_ne.2 h2
      by_cases h3 : xo = 384
      · subst h3
        rw [if_pos rfl] at hv
        rw [if_pos (.inr rfl)]
        have HA := hid (fun W => WB.alu_any 128 (TM.val L r xa.toNat) 0 (hbd _).1 (hbd _).2 (by omega) W)
        rw [← hv] at HA
        clear hm hbd hv
        go_enter Try.func53, Try.ntmps53
        go_wp2_with (go_at_call 54; refine (HA.out _).mono ?_; rintro e w1 ⟨rfl, rfl⟩)
        go_ret
        exact ⟨rfl, HB.out⟩
      · rw [if_neg h3] at hv
        rw [if_neg (by omega)]
        have hA : TM.isA xo = true := by rcases hm with h | h | h | h <;> first | omega | exact h.1
        have hrg := TM.isA_12 hA
        have z : wrap64 (xo - 256) = xo - 256 := by unfold wrap64; omega
        have z2 : IntKind.i64.wrap (xo - 256) = xo - 256 := Go.IntWalk.i64_in _ (by omega)
        have hv2 : WM.val (xo - 256) (TM.val L r xa.toNat) (TM.val L r xb.toNat) = TM.val L r k := by
          rw [hv]
          generalize TM.val L r xb.toNat = vb
          generalize TM.val L r xa.toNat = va
          by_cases hok : WM.ok (xo - 256) vb = true
          · rw [if_pos hok]
          · rw [if_neg hok]
            have hi := TM.isA_iff.1 hA
            have : xo = 304 ∧ vb = 0 := by
              simp only [WM.ok, Bool.or_eq_true, beq_iff_eq, Bool.and_eq_true, bne_iff_ne] at hok
              omega
            obtain ⟨rfl, rfl⟩ := this
            rfl
        have HA := hid (fun W => WB.alu_any (xo - 256) (TM.val L r xa.toNat) (TM.val L r xb.toNat) (hbd _).1 (hbd _).2 (hbd _).1 W)
        rw [hv2] at HA
        clear hm hbd hv hv2 hA h1 h2 hx2 h3
        go_enter Try.func53, Try.ntmps53
        go_wp2_with (go_at_call 54; first | rw [z] | skip; refine (HA.out _).mono ?_; rintro e w1 ⟨rfl, rfl⟩)
        go_ret
        exact ⟨rfl, HB.out⟩

end Go.Proofs.Ytkeigicobcjleab.TB
namespace Go.Proofs.Ytkeigicobcjleab.TB
open Go.ChangeShapes Go.WideShapes Go.ChangeAt Go.RowKit
open Go.Sort hiding Below
set_option linter.unusedVariables false
set_option maxRecDepth 100000

set_option maxHeartbeats 1600000 in
theorem casked_bad (A : Option Addr) (n cap : Nat) (L : List TM.N) (hln : L.length = n) (hn : n ≤ 9223372036854775807) (ok : ∀ x ∈ L, TM.okN x) (hrb : TM.rowB L = false) (B : Value) (w : World) (hl : LiesN w A L) :
    Calls Try.prog 43 #[.slice A n cap, B] w fun e w' => e = .returned (.int .i64 3) ∧ Below w.heap.size w w' := by
  obtain ⟨p, e, hc⟩ : ∃ p e, TM.chk L = (p, e) := ⟨_, _, rfl⟩
  have HC := hid (ccheck A n cap L hln hn ok w hl p e hc)
  have he : (e != 0) = true := by
    have : (e == 0) = false := by rw [← hrb]; unfold TM.rowB; rw [hc]
    simp [bne, this]
  clear hc hrb hl ok hln hn
  go_enter Try.func43, Try.ntmps43
  go_wp2_with fail
  refine HC.out.mono ?_
  rintro r w1 ⟨rfl, hb⟩
  have HB := hid hb
  clear hb HC
  go_wp2
  go_ret
  exact ⟨rfl, HB.out⟩

set_option maxHeartbeats 3200000 in
theorem casked (A : Option Addr) (n cap : Nat) (L : List TM.N) (hln : L.length = n) (ok : ∀ x ∈ L, TM.okN x) (hrow : TM.Row L) (B : Option Addr) (m c : Nat) (R : List Int) (hlm : R.length = m) (hm : m ≤ 65536) (q : Int) (hq : (inB L R ∧ q = 0) ∨ (¬ inB L R ∧ q = 2)) (w : World) (hl : LiesN w A L) (hR : LiesI w B R) :
    Calls Try.prog 43 #[.slice A n cap, .slice B m c] w fun e w' => e = .returned (.int .i64 q) ∧ Below w.heap.size w w' := by
  have hc : TM.chk L = (0, 0) := by
    have h65 := hrow.1
    unfold TM.chk
    rw [if_neg (by omega), TM.bad_none.2 hrow.2]
  have hn : n ≤ 65536 := by rw [← hln]; exact hrow.1
  have HC := hid (ccheck A n cap L hln (by omega) ok w hl 0 0 hc)
  have HH := hid (And.intro hln (And.intro hlm (And.intro hR hq)))
  clear hc hl ok hln hrow hlm hR hq
  go_enter Try.func43, Try.ntmps43
  go_wp2_with fail
  refine HC.out.mono ?_
  rintro r w1 ⟨rfl, hb⟩
  have HB := hid hb
  clear hb HC
  go_wp2
  go_loopw [18] (fun iv wr => ∃ k : Nat, k ≤ m ∧ iv = .int .i64 k ∧ Hid ((∀ j (h : j < R.length), j < k → 0 ≤ R[j] ∧ R[j] < (n : Int)) ∧ Below w.heap.size w wr)) (fun iv _ => m - (intOf iv).toNat)
  case atStart => exact ⟨0, Nat.zero_le _, rfl, fun j _ hj => absurd hj (Nat.not_lt_zero _), HB.out⟩
  case round =>
    clear HB
    obtain ⟨k, hk, rfl, HR⟩ := hrel
    by_cases hlt : k < m
    · have i2 : (k : Int) < (m : Int) := by omega
      have hkl : k < R.length := by rw [HH.out.2.1]; exact hlt
      obtain ⟨b, o, rfl, hbl, hcs⟩ := (HH.out.2.2.1.below HR.out.2).at (by omega)
      have q0 := hcs k hkl
      obtain ⟨y, hy⟩ : ∃ y, R[k] = y := ⟨_, rfl⟩
      rw [hy] at q0
      have HOut := hid (show ¬ (0 ≤ y ∧ y < (n : Int)) → q = 2 from fun h => by
        rcases HH.out.2.2.2 with ⟨h1, _⟩ | ⟨_, h2⟩
        · have := h1 y (by rw [← hy]; exact List.getElem_mem hkl)
          rw [HH.out.1] at this
          exact absurd this h
        · exact h2)
      have HNX := hid (show (0 ≤ y ∧ y < (n : Int)) → ∀ j (h : j < R.length), j < k + 1 → 0 ≤ R[j] ∧ R[j] < (n : Int) from fun h j hj hj2 => by
        by_cases e : j = k
        · subst e; rw [hy]; exact h
        · exact HR.out.1 j hj (by omega))
      clear hy hcs hbl
      by_cases h0 : y < 0
      · have d0 : decide (y < 0) = true := decide_eq_true h0
        obtain rfl := HOut.out (by omega)
        clear h0
        go_wp2
        go_ret
        exact ⟨rfl, HR.out.2⟩
      · have d0 : decide (y < 0) = false := decide_eq_false h0
        by_cases h1 : (n : Int) ≤ y
        · have d1 : decide ((n : Int) ≤ y) = true := decide_eq_true h1
          obtain rfl := HOut.out (by omega)
          clear h0 h1
          go_wp2
          go_ret
          exact ⟨rfl, HR.out.2⟩
        · have d1 : decide ((n : Int) ≤ y) = false := decide_eq_false h1
          have HZ := hid (HNX.out (by omega))
          clear h0 h1 HOut HNX
          go_wp2
          go_roundw
          case rel => exact ⟨k + 1, by omega, by go_num, HZ.out, HR.out.2⟩
          case measure => simp [intOf]; omega
    · obtain rfl : k = m := by omega
      have HE := hid (show q = 0 from by
        rcases HH.out.2.2.2 with ⟨_, h1⟩ | ⟨h1, _⟩
        · exact h1
        · refine absurd (fun x hx => ?_) h1
          obtain ⟨j, hj, rfl⟩ := List.getElem_of_mem hx
          rw [HH.out.1]
          exact HR.out.1 j hj (by rw [← HH.out.2.1]; exact hj))
      obtain rfl := HE.out
      go_wp2
      go_ret
      exact ⟨rfl, HR.out.2⟩

set_option maxHeartbeats 1600000 in
theorem cvalues (A : Option Addr) (n cap : Nat) (L : List TM.N) (hln : L.length = n) (hL : TM.Row L) (V : Nat → Int) (ok : ∀ x ∈ L, TM.okN x) (r : List Int) (hk : R.okR r) (w : World) (hl : LiesN w A L) (hV : ∀ j, j < n → TM.val L r j = V j) :
    Calls Try.prog 44 #[.slice A n cap, .agg (RB.enc r)] w fun e w' => ∃ g, e = .returned (.slice (some ⟨g, 0, none⟩) n n) ∧ Row w' g n (fun j => .int .u32 (V j)) ∧ Below w.heap.size w w' := by
  have hsz16 := RB.enc_size hk.1
  have HB := hid (al w (.cells (RB.enc r) 24))
  have HC := hid (cup32 A n cap L hln hL w.heap.size (TM.val L r) (w.alloc (.cells (RB.enc r) 24)) (hl.below HB.out) (fun k hk2 W hb => ctell32 L hL ok r hk w.heap.size k hk2 W ((RB.Rec.new w r hk.1).below hb (by simp))))
  have HV := hid hV
  clear hln hL ok hl hV
  go_enter Try.func44, Try.ntmps44
  go_wp2_with fail
  refine HC.out.mono ?_
  rintro e w1 ⟨g, rfl, hR, hb⟩
  have HZ := hid (And.intro (hR.congr (U := fun j => .int .u32 (V j)) (fun j hj => by rw [HV.out j hj])) (HB.out.trans (hb.mono HB.out.size)))
  clear hR hb HC HV HB
  go_wp2
  go_ret
  exact ⟨_, rfl, HZ.out⟩
end Go.Proofs.Ytkeigicobcjleab.TB
