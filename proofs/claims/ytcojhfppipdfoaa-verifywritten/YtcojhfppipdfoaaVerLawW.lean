/-
  The walk of one statement: which words are written for sure is as the reference says.
-/
import Derived.Test.YtcojhfppipdfoaaVerAwake
namespace Go.Proofs.Ytcojhfppipdfoaa.B
open Go.ChangeShapes Go.WideShapes Go.ChangeAt Go.RowKit
open Go.Sort hiding Below
set_option linter.unusedVariables false

set_option maxHeartbeats 3200000 in
set_option maxRecDepth 1000000 in
theorem lawW_skip (a : Option Addr) (n cap : Nat) (w : World) (hb : n ≤ 9223372036854775807) (h : 150 < n) :
    Calls Try.prog 4 #[.slice a n cap] w fun e w' => e = .returned (.bool true) ∧ Below w.heap.size w w' := by
  have c1 : decide ((150 : Int) < (n : Int)) = true := decide_eq_true (by omega)
  have HB := hid (Below.refl w.heap.size w)
  go_enter Try.func4, Try.ntmps4
  go_wp2_with (go_at_call 9; refine (awake_any _).mono ?_; rintro e w1 ⟨rfl, hb⟩; replace HB := stp HB hb; clear hb)
  go_ret
  exact ⟨rfl, HB.out⟩

set_option maxHeartbeats 3200000 in
set_option maxRecDepth 1000000 in
theorem lawW_nil (a : Option Addr) (n cap : Nat) (l : List M.I) (hln : l.length = n) (hn : n ≤ 150) (ok : ∀ i ∈ l, M.okI i) (w : World) (hl : Lies w a l) (h : M.lnE n ≠ 0 ∨ (M.wa l).2 ≠ 0) :
    Calls Try.prog 4 #[.slice a n cap] w fun e w' => e = .returned (.bool true) ∧ Below w.heap.size w w' := by
  have c1 : decide ((150 : Int) < (n : Int)) = false := decide_eq_false (by omega)
  have HB := hid (Below.refl w.heap.size w)
  have HV := hid (fun w hl => vwritten_nil a n cap l hln (by omega) ok w hl h)
  have HR := hid (fun w hl => rwritten_nil a n cap l hln (by omega) ok w hl h)
  have HL := hid hl
  clear h ok hl
  go_enter Try.func4, Try.ntmps4
  go_wp2_with (go_at_call 9; refine (awake_any _).mono ?_; rintro e w1 ⟨rfl, hb⟩; replace HB := stp HB hb; clear hb)
  refine (HV.out _ (HL.out.below HB.out)).mono ?_
  rintro e w2 ⟨rfl, hb⟩
  replace HB := stp HB hb
  clear hb
  go_wp2_with fail
  refine (HR.out _ (HL.out.below HB.out)).mono ?_
  rintro e w3 ⟨rfl, hb⟩
  replace HB := stp HB hb
  clear hb
  go_wp2
  go_loopw [25] (fun i wr => i = .int .i64 0 ∧ wr = w3) (fun i _ => 0)
  case atStart => exact ⟨rfl, rfl⟩
  case round =>
    obtain ⟨rfl, rfl⟩ := hrel
    go_wp2
    go_ret
    exact ⟨rfl, HB.out⟩

set_option maxHeartbeats 3200000 in
set_option maxRecDepth 1000000 in
theorem lawW_main (a : Option Addr) (n cap : Nat) (l : List M.I) (hln : l.length = n) (hn : n ≤ 150) (ok : ∀ i ∈ l, M.okI i) (w : World) (hl : Lies w a l) (h1 : M.lnE n = 0) (h2 : (M.wa l).2 = 0) :
    Calls Try.prog 4 #[.slice a n cap] w fun e w' => e = .returned (.bool true) ∧ Below w.heap.size w w' := by
  have c1 : decide ((150 : Int) < (n : Int)) = false := decide_eq_false (by omega)
  have HB := hid (Below.refl w.heap.size w)
  have HV := hid (fun w hl => vwritten_any a n cap l hln ok w hl h1 h2)
  have HR := hid (fun w hl => rwritten_any a n cap l hln ok w hl h1 h2)
  have HL := hid hl
  clear h1 h2 ok hl
  go_enter Try.func4, Try.ntmps4
  go_wp2_with (go_at_call 9; refine (awake_any _).mono ?_; rintro e w1 ⟨rfl, hb⟩; replace HB := stp HB hb; clear hb)
  refine (HV.out _ (HL.out.below HB.out)).mono ?_
  rintro e w2 ⟨g, rfl, hR, hb⟩
  replace HB := stp HB hb
  have HR1 := hid hR
  clear hb hR
  go_wp2_with fail
  refine (HR.out _ (HL.out.below HB.out)).mono ?_
  rintro e w3 ⟨g2, rfl, hR, hb⟩
  replace HB := stp HB hb
  replace HR1 := hid (HR1.out.below hb)
  have HR2 := hid hR
  clear hb hR
  go_wp2
  go_loopw [25] (fun i wr => ∃ k q : Nat, k ≤ n ∧ i = .int .i64 k ∧ wr = w3.drewN q) (fun i _ => n - (intOf i).toNat)
  case atStart => exact ⟨0, 0, Nat.zero_le _, rfl, rfl⟩
  case round =>
    obtain ⟨k, q, hk, rfl, rfl⟩ := hrel
    by_cases hlt : k < n
    · have i1 : (k : Int) < (n : Int) := by omega
      have e1 := HR1.out.cell k hlt
      have e2 := HR2.out.cell k hlt
      go_wp2
      go_quiet (fail)
      go_wp2
      go_roundw
      case rel => exact ⟨k + 1, _, by omega, by go_num, rfl⟩
      case measure => simp [intOf]; omega
    · obtain rfl : k = n := by omega
      go_wp2
      go_ret
      exact ⟨rfl, bdrew HB.out _⟩
theorem lawW (a : Option Addr) (n cap : Nat) (l : List M.I) (hln : l.length = n) (hm : n ≤ 9223372036854775807) (ok : ∀ i ∈ l, M.okI i) (w : World) (hl : Lies w a l) :
    Calls Try.prog 4 #[.slice a n cap] w fun e w' => e = .returned (.bool true) ∧ Below w.heap.size w w' := by
  by_cases h : 150 < n
  · exact lawW_skip a n cap w hm h
  · by_cases h1 : M.lnE n = 0
    · by_cases h2 : (M.wa l).2 = 0
      · exact lawW_main a n cap l hln (by omega) ok w hl h1 h2
      · exact lawW_nil a n cap l hln (by omega) ok w hl (Or.inr h2)
    · exact lawW_nil a n cap l hln (by omega) ok w hl (Or.inl h1)
end Go.Proofs.Ytcojhfppipdfoaa.B
