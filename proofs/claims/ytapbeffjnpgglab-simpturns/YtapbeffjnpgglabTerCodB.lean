/-
  The program's Check and asked of layer 11, as walks over the Go text.
-/
import Derived.Test.YtapbeffjnpgglabTerCodA
import Derived.Test.YtapbeffjnpgglabT2
namespace Go.Proofs.Ytapbeffjnpgglab.TB
open Go.ChangeShapes Go.WideShapes Go.ChangeAt Go.RowKit
open Go.Sort hiding Below
set_option linter.unusedVariables false
set_option maxRecDepth 100000

set_option maxHeartbeats 3200000 in
set_option maxRecDepth 100000 in
theorem ccheck (A : Option Addr) (n cap : Nat) (l : List TM.N) (hln : l.length = n) (hn : n ≤ 9223372036854775807) (ok : ∀ x ∈ l, TM.okN x) (w : World) (hl : LiesN w A l) (p e : Int) (hc : TM.chk l = (p, e)) :
    Calls Try.prog 25 #[.slice A n cap] w fun r w' => r = .returned (.tuple #[.int .i64 p, .int .i64 e]) ∧ Below w.heap.size w w' := by
  by_cases h65 : 65536 < n
  · have e1 : TM.chk l = (0, 5) := by unfold TM.chk; rw [if_pos (by omega)]
    rw [e1] at hc
    injection hc with h1 h2
    subst h1 h2
    have d : decide (65536 < (n : Int)) = true := decide_eq_true (by omega)
    clear hl hln hn ok e1 h65
    go_enter Try.func25, Try.ntmps25
    go_wp2
    go_ret2
    exact ⟨rfl, Below.refl _ _⟩
  · have d : decide (65536 < (n : Int)) = false := decide_eq_false (by omega)
    have hn2 : n ≤ 65536 := by omega
    have HH := hid (And.intro hln (And.intro ok (And.intro hl hc)))
    have HB := hid (Below.refl w.heap.size w)
    clear hln ok hl hc h65
    go_enter Try.func25, Try.ntmps25
    go_wp2
    go_loopw [11] (fun i wr => ∃ k : Nat, k ≤ n ∧ i = .int .i64 k ∧ Hid ((∀ j, j < k → TM.may (TM.nat0 l j) j = true) ∧ Below w.heap.size w wr)) (fun i _ => n - (intOf i).toNat)
    case atStart => exact ⟨0, Nat.zero_le _, rfl, fun j hj => absurd hj (Nat.not_lt_zero _), HB.out⟩
    case round =>
      clear HB
      obtain ⟨k, hk, rfl, HR⟩ := hrel
      by_cases hlt : k < n
      · have i2 : (k : Int) < (n : Int) := by omega
        have hkl : k < l.length := by rw [HH.out.1]; exact hlt
        obtain ⟨b, o, rfl, hly⟩ := HH.out.2.2.1.ly (by omega)
        have h0x := TM.nat0_eq hkl
        have hok := HH.out.2.1 _ (List.getElem_mem hkl)
        obtain ⟨q0, q1, q2, q3⟩ := (hly.below HR.out.2).2 k hkl
        obtain ⟨x, hx⟩ : ∃ x, l[k] = x := ⟨_, rfl⟩
        rw [hx] at q0 q1 q2 q3 h0x hok
        clear hx hly
        obtain ⟨xo, xa, xb, xk⟩ := x
        simp only at q0 q1 q2 q3
        cases hm : TM.may (xo, xa, xb, xk) k with
        | true =>
          have HC := hid (fun W => cstands xo xa xb xk hok k W true hm)
          have HM := hid (show ∀ j, j < k + 1 → TM.may (TM.nat0 l j) j = true from fun j hj => by
            by_cases e : j = k
            · subst e; rw [h0x]; exact hm
            · exact HR.out.1 j (by omega))
          clear hm h0x hok
          go_wp2_with fail
          refine (HC.out _).mono ?_
          rintro e w1 ⟨rfl, hb⟩
          have HB := stp (stp (hid HR.out.2) (al _ _)) hb
          clear hb HR q0 q1 q2 q3 HC
          go_wp2
          go_roundw
          case rel => exact ⟨k + 1, by omega, by go_num, HM.out, HB.out⟩
          case measure => simp [intOf]; omega
        | false =>
          have HC := hid (fun W => cstands xo xa xb xk hok k W false hm)
          have HE := hid (show p = k ∧ e = 3 from by
            have e1 : TM.chk l = ((k : Int), 3) := by
              have hl0 := HH.out.1
              unfold TM.chk
              rw [if_neg (by omega), TM.bad_some.2 ⟨hkl, by rw [h0x]; exact hm, HR.out.1⟩]
            have := HH.out.2.2.2
            rw [e1] at this
            injection this with h1 h2
            exact ⟨h1.symm, h2.symm⟩)
          clear hm h0x hok
          go_wp2_with fail
          refine (HC.out _).mono ?_
          rintro e w1 ⟨rfl, hb⟩
          have HB := stp (stp (hid HR.out.2) (al _ _)) hb
          clear hb HR q0 q1 q2 q3 HC
          obtain ⟨rfl, rfl⟩ := HE.out
          clear HE
          go_wp2
          go_ret2
          exact ⟨rfl, HB.out⟩
      · obtain rfl : k = n := by omega
        have HE := hid (show p = 0 ∧ e = 0 from by
          have e1 : TM.chk l = (0, 0) := by
            have hl0 := HH.out.1
            unfold TM.chk
            rw [if_neg (by omega), TM.bad_none.2 (fun i hi => HR.out.1 i (by omega))]
          have := HH.out.2.2.2
          rw [e1] at this
          injection this with h1 h2
          exact ⟨h1.symm, h2.symm⟩)
        have HB := hid HR.out.2
        obtain ⟨rfl, rfl⟩ := HE.out
        clear HE HR
        go_wp2
        go_ret2
        exact ⟨rfl, HB.out⟩

end Go.Proofs.Ytapbeffjnpgglab.TB
