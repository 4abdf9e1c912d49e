/-
  Layer 13's own pool: each node of a row put into a new one, as a walk over the Go text.
-/
import Derived.Test.YtkeigicobcjleabSimPool
namespace Go.Proofs.Ytkeigicobcjleab.TB
open Go.ChangeShapes Go.WideShapes Go.ChangeAt Go.RowKit
open Go.Sort hiding Below
set_option linter.unusedVariables false
set_option maxRecDepth 100000

set_option maxHeartbeats 6400000 in
set_option maxRecDepth 1000000 in
theorem lpool13 {Pl : PoolIs} (hPl : PoolOk Pl) (A : Option Addr) (n cap : Nat) (L : List TM.N) (hln : L.length = n) (hn : n ≤ 4000) (hr : TM.Row L) (hO : TM.Once L) (ok : ∀ x ∈ L, TM.okN x) (w : World) (hl : LiesN w A L) :
    Calls Try.prog 8 #[.slice A n cap] w fun e w' => ∃ v F, e = .returned (.tuple #[v, .bool true]) ∧ Pl w' F v L ∧ Below w.heap.size w w' ∧ (∀ b, F b → w.heap.size ≤ b) := by
  have HP := hid hPl
  have HH := hid (And.intro hln (And.intro hr (And.intro hO (And.intro ok hl))))
  clear hPl hln hr hO ok hl
  go_enter Try.func8, Try.ntmps8
  go_wp2_with fail
  refine (HP.out.new _).mono ?_
  rintro e w1 ⟨v, F0, rfl, hpl, hb, hF⟩
  have HM := hid (show ∃ F, Pl w1 F v (L.take 0) ∧ Below w.heap.size w w1 ∧ (∀ b, F b → w.heap.size ≤ b) from ⟨F0, by rw [List.take_zero]; exact hpl, hb, hF⟩)
  clear hpl hb hF
  go_wp2
  go_loopw [12] (fun iv wr => ∃ (k : Nat), k ≤ n ∧ iv = .int .i64 k ∧ Hid (∃ F, Pl wr F v (L.take k) ∧ Below w.heap.size w wr ∧ (∀ b, F b → w.heap.size ≤ b))) (fun iv _ => n - (intOf iv).toNat)
  case atStart => exact ⟨0, Nat.zero_le _, rfl, HM.out⟩
  case round =>
    clear HM
    obtain ⟨k, hk, rfl, HR⟩ := hrel
    by_cases hlt : k < n
    · have i2 : (k : Int) < (n : Int) := by omega
      have hkl : k < L.length := by rw [HH.out.1]; exact hlt
      obtain ⟨F, hpl, hbw, hF⟩ := HR.out
      obtain ⟨b, o, rfl, hly⟩ := (HH.out.2.2.2.2.below hbw).ly (by omega)
      obtain ⟨q0, q1, q2, q3⟩ := hly.2 k hkl
      have hmay := HH.out.2.1.2 k hkl
      have hok := TM.nat0_ok HH.out.2.2.2.1 k
      have hput := TM.put_take HH.out.2.2.1 hkl
      rw [← TM.nat0_eq hkl] at q0 q1 q2 q3
      generalize TM.nat0 L k = x at *
      obtain ⟨xo, xa, xb, xk⟩ := x
      simp only at q0 q1 q2 q3
      have hlen : (L.take k).length = k := by rw [List.length_take]; omega
      have HC := hid (fun ob => HP.out.put (wr.alloc ob) F v (L.take k) xo xa xb xk hok (HP.out.below hpl (al wr ob)) (by rw [hlen]; exact hmay) (by omega) (L.take (k + 1)) k hput)
      obtain ⟨x0, x1, x2, x3, _⟩ := (NAt.new wr xo xa xb xk).cells
      simp only at x0 x1 x2 x3
      have HX := hid (And.intro hbw (And.intro hF (al wr (.cells #[.int .i64 xo, .int .i64 xa, .int .i64 xb, .int .u32 xk] 28))))
      have d1 : ((k : Int) != (k : Int)) = false := by simp
      clear hpl hbw hF hly hmay hok hput hlen HR
      go_wp2_with fail
      refine (HC.out _).mono ?_
      rintro e w3 ⟨F', rfl, hpl', hfr, hF'⟩
      have HF := hid (show ∃ F, Pl w3 F v (L.take (k + 1)) ∧ Below w.heap.size w w3 ∧ (∀ b, F b → w.heap.size ≤ b) from ⟨F', hpl', hfr.below ((stp (hid HX.out.1) HX.out.2.2).out) HX.out.2.1 (Nat.le_trans HX.out.1.size HX.out.2.2.size), fun b hb => by
        rcases hF' b hb with h | h
        · exact HX.out.2.1 b h
        · have := HX.out.1.size
          have := HX.out.2.2.size
          omega⟩)
      clear hpl' hfr hF' HC q0 q1 q2 q3 x0 x1 x2 x3
      go_wp2
      go_roundw
      case rel => exact ⟨k + 1, by omega, by go_num, HF.out⟩
      case measure => simp [intOf]; omega
    · obtain rfl : k = n := by omega
      have HF := hid (show ∃ F, Pl wr F v L ∧ Below w.heap.size w wr ∧ (∀ b, F b → w.heap.size ≤ b) from by
        obtain ⟨F, h1, h2, h3⟩ := HR.out
        rw [List.take_of_length_le (by rw [HH.out.1]; exact Nat.le_refl _)] at h1
        exact ⟨F, h1, h2, h3⟩)
      go_wp2
      go_ret2
      obtain ⟨F, h1, h2, h3⟩ := HF.out
      exact ⟨v, F, rfl, h1, h2, h3⟩
end Go.Proofs.Ytkeigicobcjleab.TB
