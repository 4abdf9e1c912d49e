/-
  The program's Reached and Into, its leaders, where a block ends: as walks over the Go text.
-/
import Derived.Test.YtahaooghebmhnaaG7
namespace Go.Proofs.Ytahaooghebmhnaa.M
/-- the leaders, as they are known when the jumps among the first k places are -/
def leadR (l : List I) (k j : Nat) : Bool := decide (j = 0) || decide (1 < into l j) || jmpK l k j
theorem leadR_zero (l : List I) (j : Nat) : leadR l 0 j = if j = 0 then true else decide (1 < into l j) := by
  unfold leadR; rw [jmpK_zero]
  by_cases e : j = 0 <;> simp [e]
theorem leadR_succ (l : List I) (k j : Nat) : leadR l (k + 1) j = (leadR l k j || (rch l k && isJ (at0 l k) && (beh k (at0 l k)).contains j)) := by
  unfold leadR; rw [jmpK_succ]; simp only [Bool.or_assoc]
theorem leadR_all {l : List I} {n : Nat} (hn : l.length = n) (j : Nat) : leadR l n j = lead l j := by
  subst hn; rfl
theorem ends_go {c t f k : Int} (h : ends c = true) : goesOn (c, t, f, k) = false := by
  unfold ends at h
  unfold goesOn
  simp only [Bool.or_eq_true, beq_iff_eq] at h
  simp only [Bool.not_eq_false', Bool.and_eq_true, decide_eq_true_eq]
  omega
theorem isJ_go {c t f k : Int} (h : isJ (c, t, f, k) = true) : goesOn (c, t, f, k) = false := by
  unfold isJ at h
  unfold goesOn
  simp only [Bool.or_eq_true, decide_eq_true_eq] at h
  simp only [Bool.not_eq_false', Bool.and_eq_true, decide_eq_true_eq]
  omega
theorem on_go {c t f k : Int} (h1 : ends c = false) (h2 : isJ (c, t, f, k) = false) : goesOn (c, t, f, k) = true := by
  unfold ends at h1
  unfold isJ at h2
  rw [goesOn_iff]
  simp only [Bool.or_eq_false_iff, beq_eq_false_iff_ne, decide_eq_false_iff_not] at h1 h2
  simp only
  omega
end Go.Proofs.Ytahaooghebmhnaa.M
namespace Go.Proofs.Ytahaooghebmhnaa.B
open Go.ChangeShapes Go.WideShapes Go.ChangeAt Go.RowKit
open Go.Sort hiding Below
set_option linter.unusedVariables false

set_option maxHeartbeats 1600000 in
set_option maxRecDepth 100000 in
theorem greached_bad (a : Option Addr) (n cap : Nat) (l : List M.I) (hln : l.length = n) (hn : n ≤ 65536) (ok : ∀ i ∈ l, M.okI i) (w : World) (hl : Lies w a l) (hb : M.rightB l = false) :
    Calls Try.prog 19 #[.slice a n cap] w fun e w' => e = .returned (.slice none 0 0) ∧ Below w.heap.size w w' := by
  have HC := hid (right_any a n cap l hln (by omega) ok w hl false hb)
  clear hl ok hb
  go_enter Try.func19, Try.ntmps19
  go_wp2_with fail
  refine HC.out.mono ?_
  rintro e w1 ⟨rfl, hb⟩
  have HB := hid hb
  clear hb HC
  go_wp2
  go_ret
  exact ⟨rfl, HB.out⟩
set_option maxHeartbeats 1600000 in
set_option maxRecDepth 100000 in
theorem gReached (b o n cap : Nat) (l : List M.I) (hln : l.length = n) (hn : n ≤ 4096) (ok : ∀ i ∈ l, M.okI i) (hr : M.right l) (w : World) (hl : Ly w b o l) :
    Calls Try.prog 19 #[.slice (some ⟨b, o, none⟩) n cap] w fun e w' => ∃ g, e = .returned (.slice (some ⟨g, 0, none⟩) n n) ∧ Row w' g n (fun j => .bool (M.rch l j)) ∧ Below w.heap.size w w' ∧ w.heap.size ≤ g := by
  have HC := hid (right_any (some ⟨b, o, none⟩) n cap l hln (by omega) ok w hl.lies true (M.right_of.2 hr))
  have HG := hid (fun W (hb : Below w.heap.size w W) => greached_any b o n cap l hln hn ok hr W (hl.below hb))
  clear hl ok hr hln
  go_enter Try.func19, Try.ntmps19
  go_wp2_with fail
  refine HC.out.mono ?_
  rintro e w1 ⟨rfl, hb⟩
  have HB := hid hb
  clear hb HC
  go_wp2_with fail
  refine (HG.out _ HB.out).mono ?_
  rintro e w2 ⟨g, rfl, hR, hb, hg⟩
  have HR := hid (show Row w2 g n (fun j => .bool (M.rch l j)) ∧ Below w.heap.size w w2 ∧ w.heap.size ≤ g from ⟨hR, (stp HB hb).out, Nat.le_trans HB.out.size hg⟩)
  clear hb hR hg HB HG
  go_wp2
  go_ret
  exact ⟨g, rfl, HR.out⟩
end Go.Proofs.Ytahaooghebmhnaa.B
