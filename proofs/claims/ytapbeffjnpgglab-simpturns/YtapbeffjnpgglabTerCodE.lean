/-
  The program's asked, values, Values, Value, Uses, Size of layer 11, as walks over the Go text.
-/
import Derived.Test.YtapbeffjnpgglabTerCodB
import Derived.Test.YtapbeffjnpgglabTerCodD
import Derived.Test.YtapbeffjnpgglabTerLawO
import Derived.Test.YtapbeffjnpgglabTerPool
namespace Go.Proofs.Ytapbeffjnpgglab.TB
open Go.ChangeShapes Go.WideShapes Go.ChangeAt Go.RowKit
open Go.Sort hiding Below
set_option linter.unusedVariables false
set_option maxRecDepth 100000

set_option maxHeartbeats 1600000 in
theorem casked_bad (A : Option Addr) (n cap : Nat) (L : List TM.N) (hln : L.length = n) (hn : n ≤ 9223372036854775807) (ok : ∀ x ∈ L, TM.okN x) (hrb : TM.rowB L = false) (B : Value) (w : World) (hl : LiesN w A L) :
    Calls Try.prog 34 #[.slice A n cap, B] w fun e w' => e = .returned (.int .i64 3) ∧ Below w.heap.size w w' := by
  obtain ⟨p, e, hc⟩ : ∃ p e, TM.chk L = (p, e) := ⟨_, _, rfl⟩
  have HC := hid (ccheck A n cap L hln hn ok w hl p e hc)
  have he : (e != 0) = true := by
    have : (e == 0) = false := by rw [← hrb]; unfold TM.rowB; rw [hc]
    simp [bne, this]
  clear hc hrb hl ok hln hn
  go_enter Try.func34, Try.ntmps34
  go_wp2_with fail
  refine HC.out.mono ?_
  rintro r w1 ⟨rfl, hb⟩
  have HB := hid hb
  clear hb HC
  go_wp2
  go_ret
  exact ⟨rfl, HB.out⟩

set_option maxHeartbeats 3200000 in
theorem casked (A : Option Addr) (n cap : Nat) (L : List TM.N) (hln : L.length = n) (ok : ∀ x ∈ L, TM.okN x) (hrow : TM.Row L) (B : Option Addr) (m c : Nat) (R : List Int) (hlm : R.length = m) (hm : m ≤ 65536) (q : Int) (hq : (inB L R ∧ q = 0) ∨ (¬ inB L R ∧ q = 2)) (w : World) (hl : LiesN w A L) (hR : LiesI w B R) :
    Calls Try.prog 34 #[.slice A n cap, .slice B m c] w fun e w' => e = .returned (.int .i64 q) ∧ Below w.heap.size w w' := by
  have hc : TM.chk L = (0, 0) := by
    have h65 := hrow.1
    unfold TM.chk
    rw [if_neg (by omega), TM.bad_none.2 hrow.2]
  have hn : n ≤ 65536 := by rw [← hln]; exact hrow.1
  have HC := hid (ccheck A n cap L hln (by omega) ok w hl 0 0 hc)
  have HH := hid (And.intro hln (And.intro hlm (And.intro hR hq)))
  clear hc hl ok hln hrow hlm hR hq
  go_enter Try.func34, Try.ntmps34
  go_wp2_with fail
  refine HC.out.mono ?_
  rintro r w1 ⟨rfl, hb⟩
  have HB := hid hb
  clear hb HC
  go_wp2
  go_loopw [18] (fun iv wr => ∃ k : Nat, k ≤ m ∧ iv = .int .i64 k ∧ Hid ((∀ j (h : j < R.length), j < k → 0 ≤ R[j] ∧ R[j] < (n : Int)) ∧ Below w.heap.size w wr)) (fun iv _ => m - (intOf iv).toNat)
  case atStart => exact ⟨0, Nat.zero_le _, rfl, fun j _ hj => absurd hj (Nat.not_lt_zero _), HB.out⟩
  case round =>
    clear HB
    obtain ⟨k, hk, rfl, HR⟩ := hrel
    by_cases hlt : k < m
    · have i2 : (k : Int) < (m : Int) := by omega
      have hkl : k < R.length := by rw [HH.out.2.1]; exact hlt
      obtain ⟨b, o, rfl, hbl, hcs⟩ := (HH.out.2.2.1.below HR.out.2).at (by omega)
      have q0 := hcs k hkl
      obtain ⟨y, hy⟩ : ∃ y, R[k] = y := ⟨_, rfl⟩
      rw [hy] at q0
      have HOut := hid (show ¬ (0 ≤ y ∧ y < (n : Int)) → q = 2 from fun h => by
        rcases HH.out.2.2.2 with ⟨h1, _⟩ | ⟨_, h2⟩
        · have := h1 y (by rw [← hy]; exact List.getElem_mem hkl)
          rw [HH.out.1] at this
          exact absurd this h
        · exact h2)
      have HNX := hid (show (0 ≤ y ∧ y < (n : Int)) → ∀ j (h : j < R.length), j < k + 1 → 0 ≤ R[j] ∧ R[j] < (n : Int) from fun h j hj hj2 => by
        by_cases e : j = k
        · subst e; rw [hy]; exact h
        · exact HR.out.1 j hj (by omega))
      clear hy hcs hbl
      by_cases h0 : y < 0
      · have d0 : decide (y < 0) = true := decide_eq_true h0
        obtain rfl := HOut.out (by omega)
        clear h0
        go_wp2
        go_ret
        exact ⟨rfl, HR.out.2⟩
      · have d0 : decide (y < 0) = false := decide_eq_false h0
        by_cases h1 : (n : Int) ≤ y
        · have d1 : decide ((n : Int) ≤ y) = true := decide_eq_true h1
          obtain rfl := HOut.out (by omega)
          clear h0 h1
          go_wp2
          go_ret
          exact ⟨rfl, HR.out.2⟩
        · have d1 : decide ((n : Int) ≤ y) = false := decide_eq_false h1
          have HZ := hid (HNX.out (by omega))
          clear h0 h1 HOut HNX
          go_wp2
          go_roundw
          case rel => exact ⟨k + 1, by omega, by go_num, HZ.out, HR.out.2⟩
          case measure => simp [intOf]; omega
    · obtain rfl : k = m := by omega
      have HE := hid (show q = 0 from by
        rcases HH.out.2.2.2 with ⟨_, h1⟩ | ⟨h1, _⟩
        · exact h1
        · refine absurd (fun x hx => ?_) h1
          obtain ⟨j, hj, rfl⟩ := List.getElem_of_mem hx
          rw [HH.out.1]
          exact HR.out.1 j hj (by rw [← HH.out.2.1]; exact hj))
      obtain rfl := HE.out
      go_wp2
      go_ret
      exact ⟨rfl, HR.out.2⟩

end Go.Proofs.Ytapbeffjnpgglab.TB
