/-
  The reference's Behind, as a walk over the Go text.
-/
import Derived.Test.YtfmlefadifpocaaG1
import Derived.Test.YtfmlefadifpocaaHR
import Derived.Test.YtfmlefadifpocaaH4
import Derived.StillTailTactics
namespace Go.Proofs.Ytfmlefadifpocaa.B
open Go.ChangeShapes Go.WideShapes Go.ChangeAt Go.RowKit
open Go.Sort hiding Below
set_option linter.unusedVariables false

theorem nx_get {w : World} {g : Nat} {js : List Nat} (h : Nx w (some ⟨g, 0, none⟩) js) (k : Nat) (hk : k < js.length) : w.cell? ⟨g, k, none⟩ = some (.int .i64 (js[k] : Int)) := by
  rcases h with h | ⟨g', e, _, h⟩
  · rw [h] at hk; simp at hk
  · injection e with e
    injection e with e
    subst e
    exact h k hk

set_option maxHeartbeats 3200000 in
set_option maxRecDepth 1000000 in
theorem rbehind_few (a0 : Option Addr) (n cap : Nat) (j : Int) (m : Nat) (js : List Nat) (hm : js.length = m) (hm1 : m ≠ 2) (hm2 : m ≤ 2) (w : World)
    (hN : Calls Try.prog 30 #[.slice a0 n cap, .int .i64 j] w fun e w' => ∃ a, e = .returned (.slice a m m) ∧ Nx w' a js ∧ (∀ A, a = some A → w.heap.size ≤ A.block) ∧ Below w.heap.size w w') :
    Calls Try.prog 23 #[.slice a0 n cap, .int .i64 j] w fun e w' => ∃ a c, e = .returned (.slice a m c) ∧ Nx w' a js ∧ (∀ A, a = some A → w.heap.size ≤ A.block) ∧ Below w.heap.size w w' := by
  have hb2 : ((m : Int) == 2) = false := by rw [beq_eq_false_iff_ne]; omega
  have HN := hid hN
  clear hN
  go_enter Try.func23, Try.ntmps23
  go_wp2_with fail
  refine HN.out.mono ?_
  rintro e w1 ⟨a, rfl, hx, hA, hb⟩
  have HR := hid (show Nx w1 a js ∧ (∀ A, a = some A → w.heap.size ≤ A.block) ∧ Below w.heap.size w w1 from ⟨hx, hA, hb⟩)
  clear hx hA hb HN
  go_wp2
  go_quiet (fail)
  go_wp2
  go_quiet (fail)
  go_wp2
  go_ret
  exact ⟨a, m, rfl, HR.out.1.below (bdrew (bdrew (Below.refl _ _) _) _), HR.out.2.1, bdrew (bdrew HR.out.2.2 _) _⟩

set_option maxHeartbeats 3200000 in
set_option maxRecDepth 1000000 in
theorem rbehind_two (a0 : Option Addr) (n cap : Nat) (j : Int) (p q : Nat) (w : World)
    (hN : Calls Try.prog 30 #[.slice a0 n cap, .int .i64 j] w fun e w' => ∃ a, e = .returned (.slice a 2 2) ∧ Nx w' a [p, q] ∧ (∀ A, a = some A → w.heap.size ≤ A.block) ∧ Below w.heap.size w w') :
    Calls Try.prog 23 #[.slice a0 n cap, .int .i64 j] w fun e w' => ∃ a c, e = .returned (.slice a (if p = q then [p] else if q < p then [q, p] else [p, q]).length c) ∧ Nx w' a (if p = q then [p] else if q < p then [q, p] else [p, q]) ∧ (∀ A, a = some A → w.heap.size ≤ A.block) ∧ Below w.heap.size w w' := by
  have HN := hid hN
  clear hN
  rcases Nat.lt_trichotomy p q with h | h | h
  · rw [if_neg (show ¬ p = q by omega), if_neg (show ¬ q < p by omega)]
    have d1 : ((p : Int) == (q : Int)) = false := by rw [beq_eq_false_iff_ne]; omega
    have d2 : decide (q < p) = false := decide_eq_false (by omega)
    clear h
    go_enter Try.func23, Try.ntmps23
    go_wp2_with fail
    refine HN.out.mono ?_
    rintro e w1 ⟨a, rfl, hx, hA, hb⟩
    obtain ⟨g, rfl, hg⟩ : ∃ g, a = some ⟨g, 0, none⟩ ∧ g < w1.heap.size := by
      rcases hx with h | ⟨g, e, h, _⟩
      · cases h
      · exact ⟨g, e, h⟩
    have c0 : w1.cell? ⟨g, 0, none⟩ = some (.int .i64 (p : Int)) := nx_get hx 0 (by simp)
    have c1 : w1.cell? ⟨g, 1, none⟩ = some (.int .i64 (q : Int)) := nx_get hx 1 (by simp)
    have HR := hid (show Nx w1 (some ⟨g, 0, none⟩) [p, q] ∧ w.heap.size ≤ g ∧ Below w.heap.size w w1 from ⟨hx, hA _ rfl, hb⟩)
    clear hx hA hb HN hg
    go_wp2
    go_quiet (fail)
    go_wp2
    go_quiet (fail)
    go_wp2
    go_ret
    exact ⟨some ⟨g, 0, none⟩, 2, rfl, HR.out.1.below (bdrew (bdrew (Below.refl _ _) _) _), fun A hA => (by injection hA with hA; subst hA; exact HR.out.2.1), bdrew (bdrew HR.out.2.2 _) _⟩
  · subst h
    rw [if_pos rfl]
    go_enter Try.func23, Try.ntmps23
    go_wp2_with fail
    refine HN.out.mono ?_
    rintro e w1 ⟨a, rfl, hx, hA, hb⟩
    obtain ⟨g, rfl, hg⟩ : ∃ g, a = some ⟨g, 0, none⟩ ∧ g < w1.heap.size := by
      rcases hx with h | ⟨g, e, h, _⟩
      · cases h
      · exact ⟨g, e, h⟩
    have c0 : w1.cell? ⟨g, 0, none⟩ = some (.int .i64 (p : Int)) := nx_get hx 0 (by simp)
    have c1 : w1.cell? ⟨g, 1, none⟩ = some (.int .i64 (p : Int)) := nx_get hx 1 (by simp)
    have HR := hid (show g < w1.heap.size ∧ w1.cell? ⟨g, 0, none⟩ = some (.int .i64 (p : Int)) ∧ w.heap.size ≤ g ∧ Below w.heap.size w w1 from ⟨hg, c0, hA _ rfl, hb⟩)
    clear hx hA hb HN hg
    go_wp2
    go_quiet (fail)
    go_wp2
    go_ret
    refine ⟨some ⟨g, 0, none⟩, 2, rfl, .inr ⟨g, rfl, HR.out.1, fun k hk => ?_⟩, fun A hA => (by injection hA with hA; subst hA; exact HR.out.2.2.1), bdrew HR.out.2.2.2 _⟩
    have : k = 0 := by simp at hk; omega
    subst this
    exact HR.out.2.1
  · rw [if_neg (show ¬ p = q by omega), if_pos h]
    have d1 : ((p : Int) == (q : Int)) = false := by rw [beq_eq_false_iff_ne]; omega
    have d2 : decide (q < p) = true := decide_eq_true (by omega)
    clear h
    go_enter Try.func23, Try.ntmps23
    go_wp2_with fail
    refine HN.out.mono ?_
    rintro e w1 ⟨a, rfl, hx, hA, hb⟩
    obtain ⟨g, rfl, hg⟩ : ∃ g, a = some ⟨g, 0, none⟩ ∧ g < w1.heap.size := by
      rcases hx with h | ⟨g, e, h, _⟩
      · cases h
      · exact ⟨g, e, h⟩
    have c0 : w1.cell? ⟨g, 0, none⟩ = some (.int .i64 (p : Int)) := nx_get hx 0 (by simp)
    have c1 : w1.cell? ⟨g, 1, none⟩ = some (.int .i64 (q : Int)) := nx_get hx 1 (by simp)
    have HB := hid hb
    clear hx hA hb HN hg
    go_wp2
    go_quiet (fail)
    go_wp2
    go_quiet (fail)
    go_wp2
    refine wp_region_still_tail 6 (by kernel_rfl) (by kernel_rfl) ?_
    change wpStill _ _ (World.drew _) (fun a' => wpList _ _ _ _ a' (World.drew _)) _ _
    simp only [List.take_succ_cons, List.take_zero, List.drop_succ_cons, List.drop_zero]
    repeat still_step
    refine wpStill_nil ?_
    go_wp2
    go_ret
    refine ⟨some ⟨w1.heap.size, 0, none⟩, 2, rfl, .inr ⟨w1.heap.size, rfl, by simp, fun k hk => ?_⟩, fun A hA => (by injection hA with hA; subst hA; exact HB.out.size), ?_⟩
    · have h2 : k = 0 ∨ k = 1 := by simp at hk; omega
      have hc : ∀ W : World, (W.alloc (.cells #[.int .i64 (q : Int), .int .i64 (p : Int)] 3)).cell? ⟨W.heap.size, k, none⟩ = (#[.int .i64 (q : Int), .int .i64 (p : Int)] : Array Value)[k]? := fun W => cell_of_row _ _ k _ 3 (0, 0) (heap_alloc_last W _)
      refine (hc (w1.drewN _)).trans ?_
      rcases h2 with rfl | rfl <;> rfl
    · exact (bdrew HB.out _).alloc (by simpa using HB.out.size) _

theorem nxt_few {i : Nat} {x : M.I} (h : M.kind x.1 ≠ 12) : (M.nxt i x).length ≤ 1 := by
  unfold M.nxt
  rw [if_neg h]
  split
  · simp
  · split <;> simp
theorem rbehind_ly (b o n cap j : Nat) (l : List M.I) (hln : l.length = n) (hn : n ≤ 65536) (hj : j < l.length) (ok : ∀ i ∈ l, M.okI i) (w : World) (hl : Ly w b o l) (js : List Nat) (hjs : M.beh j (M.at0 l j) = js) :
    Calls Try.prog 23 #[.slice (some ⟨b, o, none⟩) n cap, .int .i64 j] w fun e w' => ∃ a c, e = .returned (.slice a js.length c) ∧ Nx w' a js ∧ (∀ A, a = some A → w.heap.size ≤ A.block) ∧ Below w.heap.size w w' := by
  have hx := M.at0_eq hj
  have okx := ok _ (List.getElem_mem hj)
  rw [hx] at hjs
  by_cases h : M.kind l[j].1 = 12
  · have hN := next_ly b o n cap j l hln hn hj ok w hl [j + 1 + l[j].2.1.toNat, j + 1 + l[j].2.2.1.toNat] 2 (M.nxt_jif h) rfl
    have hT := rbehind_two _ n cap j _ _ w hN
    have b1 := okx.2.1
    have b2 := okx.2.2.1
    have e : (if j + 1 + l[j].2.1.toNat = j + 1 + l[j].2.2.1.toNat then [j + 1 + l[j].2.1.toNat] else if j + 1 + l[j].2.2.1.toNat < j + 1 + l[j].2.1.toNat then [j + 1 + l[j].2.2.1.toNat, j + 1 + l[j].2.1.toNat] else [j + 1 + l[j].2.1.toNat, j + 1 + l[j].2.2.1.toNat]) = js := by
      rw [← hjs, M.beh_jif h]
      by_cases e1 : l[j].2.1 = l[j].2.2.1
      · rw [if_pos e1, if_pos (by rw [e1])]
      · rw [if_neg e1, if_neg (by omega)]
        by_cases e2 : l[j].2.2.1 < l[j].2.1
        · rw [if_pos e2, if_pos (by omega)]
        · rw [if_neg e2, if_neg (by omega)]
    rw [e] at hT
    exact hT
  · have hb : M.nxt j l[j] = js := by rw [← hjs, M.beh_not h]
    have hlen : js.length ≤ 1 := by rw [← hb]; exact nxt_few h
    have hN := next_ly b o n cap j l hln hn hj ok w hl js js.length hb rfl
    exact rbehind_few _ n cap j js.length js rfl (by omega) (by omega) w hN
end Go.Proofs.Ytfmlefadifpocaa.B
namespace Go.Proofs.Ytfmlefadifpocaa.M
theorem intoK_le (l : List I) (k j : Nat) : intoK l k j ≤ k := by
  unfold intoK
  have := List.length_filter_le (fun i => rch l i && (beh i (at0 l i)).contains j) (List.range k)
  rw [List.length_range] at this
  exact this
/-- a place is not among those ahead of it in a rising list -/
theorem take_not {js : List Nat} (hs : js.Pairwise (· < ·)) {q : Nat} (hq : q < js.length) : js[q] ∉ js.take q := by
  intro h
  obtain ⟨i, hi, e⟩ := List.getElem_of_mem h
  rw [List.length_take] at hi
  rw [List.getElem_take] at e
  have := List.pairwise_iff_getElem.1 hs i q (by omega) hq (by omega)
  omega
theorem take_succ_mem {js : List Nat} {q j : Nat} (hq : q < js.length) : j ∈ js.take (q + 1) ↔ j ∈ js.take q ∨ j = js[q] := by
  rw [List.take_succ_eq_append_getElem hq, List.mem_append, List.mem_singleton]
theorem beh_len (i : Nat) (x : I) : (beh i x).length ≤ 2 := by
  by_cases h : kind x.1 = 12
  · rw [beh_jif h]
    split
    · simp
    · split <;> simp
  · rw [beh_not h]; exact nxt_len i x
end Go.Proofs.Ytfmlefadifpocaa.M
namespace Go.Proofs.Ytfmlefadifpocaa.B
open Go.ChangeShapes Go.WideShapes Go.ChangeAt Go.RowKit
open Go.Sort hiding Below
set_option linter.unusedVariables false

theorem infoi : (Try.prog.info? 3).map (fun i => (i.zero, i.size, i.bytes)) = some (some (.int .i64 0), 1, 8) := by kernel_rfl
end Go.Proofs.Ytfmlefadifpocaa.B
namespace Go.Proofs.Ytfmlefadifpocaa.M
/-- the leaders, as they are known behind k places -/
def leadP (l : List I) (k j : Nat) : Bool := decide (j = 0) || (decide (j < k) && decide (1 < into l j)) || jmpK l k j
def leadQ (l : List I) (k j : Nat) : Bool := leadP l k j || (decide (j = k) && decide (1 < into l k))
theorem leadP_zero (l : List I) (j : Nat) : leadP l 0 j = decide (j = 0) := by
  unfold leadP; rw [jmpK_zero]; simp
theorem leadP_succ (l : List I) (k j : Nat) : leadP l (k + 1) j = (leadQ l k j || (rch l k && isJ (at0 l k) && (beh k (at0 l k)).contains j)) := by
  unfold leadQ leadP
  rw [jmpK_succ]
  by_cases e : j = k
  · subst e
    have h1 : decide (j < j + 1) = true := decide_eq_true (by omega)
    have h2 : decide (j < j) = false := decide_eq_false (by omega)
    rw [h1, h2]
    simp [Bool.or_assoc, Bool.or_comm, Bool.or_left_comm]
  · have h1 : decide (j < k + 1) = decide (j < k) := by
      by_cases h : j < k
      · rw [decide_eq_true h, decide_eq_true (by omega)]
      · rw [decide_eq_false h, decide_eq_false (by omega)]
    rw [h1, decide_eq_false e]
    simp [Bool.or_assoc]
theorem leadP_all {l : List I} {n j : Nat} (hn : l.length = n) (hj : j < n) : leadP l n j = lead l j := by
  unfold leadP lead
  rw [decide_eq_true hj, hn]
  simp
theorem leadQ_yes {l : List I} {k : Nat} (h : 1 < into l k) (j : Nat) : leadQ l k j = if j = k then true else leadP l k j := by
  unfold leadQ
  rw [decide_eq_true h]
  by_cases e : j = k
  · simp [e]
  · simp [e]
theorem leadQ_no {l : List I} {k : Nat} (h : ¬ 1 < into l k) (j : Nat) : leadQ l k j = leadP l k j := by
  unfold leadQ
  rw [decide_eq_false h]
  simp
end Go.Proofs.Ytfmlefadifpocaa.M
namespace Go.Proofs.Ytfmlefadifpocaa.B
open Go.ChangeShapes Go.WideShapes Go.ChangeAt Go.RowKit
open Go.Sort hiding Below
set_option linter.unusedVariables false

end Go.Proofs.Ytfmlefadifpocaa.B
