/-
  The reference's Behind, as a walk over the Go text.
-/
import Derived.Test.YthfneidbaiebhaaG1
import Derived.Test.YthfneidbaiebhaaHR
import Derived.Test.YthfneidbaiebhaaH4
import Derived.StillTailTactics
namespace Go.Proofs.Ythfneidbaiebhaa.B
open Go.ChangeShapes Go.WideShapes Go.ChangeAt Go.RowKit
open Go.Sort hiding Below
set_option linter.unusedVariables false

theorem nx_get {w : World} {g : Nat} {js : List Nat} (h : Nx w (some ⟨g, 0, none⟩) js) (k : Nat) (hk : k < js.length) : w.cell? ⟨g, k, none⟩ = some (.int .i64 (js[k] : Int)) := by
  rcases h with h | ⟨g', e, _, h⟩
  · rw [h] at hk; simp at hk
  · injection e with e
    injection e with e
    subst e
    exact h k hk

set_option maxHeartbeats 3200000 in
set_option maxRecDepth 1000000 in
theorem rbehind_few (a0 : Option Addr) (n cap : Nat) (j : Int) (m : Nat) (js : List Nat) (hm : js.length = m) (hm1 : m ≠ 2) (hm2 : m ≤ 2) (w : World)
    (hN : Calls Try.prog 25 #[.slice a0 n cap, .int .i64 j] w fun e w' => ∃ a, e = .returned (.slice a m m) ∧ Nx w' a js ∧ (∀ A, a = some A → w.heap.size ≤ A.block) ∧ Below w.heap.size w w') :
    Calls Try.prog 10 #[.slice a0 n cap, .int .i64 j] w fun e w' => ∃ a c, e = .returned (.slice a m c) ∧ Nx w' a js ∧ (∀ A, a = some A → w.heap.size ≤ A.block) ∧ Below w.heap.size w w' := by
  have hb2 : ((m : Int) == 2) = false := by rw [beq_eq_false_iff_ne]; omega
  have HN := hid hN
  clear hN
  go_enter Try.func10, Try.ntmps10
  go_wp2_with fail
  refine HN.out.mono ?_
  rintro e w1 ⟨a, rfl, hx, hA, hb⟩
  have HR := hid (show Nx w1 a js ∧ (∀ A, a = some A → w.heap.size ≤ A.block) ∧ Below w.heap.size w w1 from ⟨hx, hA, hb⟩)
  clear hx hA hb HN
  go_wp2
  go_quiet (fail)
  go_wp2
  go_quiet (fail)
  go_wp2
  go_ret
  exact ⟨a, m, rfl, HR.out.1.below (bdrew (bdrew (Below.refl _ _) _) _), HR.out.2.1, bdrew (bdrew HR.out.2.2 _) _⟩

set_option maxHeartbeats 3200000 in
set_option maxRecDepth 1000000 in
theorem rbehind_two (a0 : Option Addr) (n cap : Nat) (j : Int) (p q : Nat) (w : World)
    (hN : Calls Try.prog 25 #[.slice a0 n cap, .int .i64 j] w fun e w' => ∃ a, e = .returned (.slice a 2 2) ∧ Nx w' a [p, q] ∧ (∀ A, a = some A → w.heap.size ≤ A.block) ∧ Below w.heap.size w w') :
    Calls Try.prog 10 #[.slice a0 n cap, .int .i64 j] w fun e w' => ∃ a c, e = .returned (.slice a (if p = q then [p] else if q < p then [q, p] else [p, q]).length c) ∧ Nx w' a (if p = q then [p] else if q < p then [q, p] else [p, q]) ∧ (∀ A, a = some A → w.heap.size ≤ A.block) ∧ Below w.heap.size w w' := by
  have HN := hid hN
  clear hN
  rcases Nat.lt_trichotomy p q with h | h | h
  · rw [if_neg (show ¬ p = q by omega), if_neg (show ¬ q < p by omega)]
    have d1 : ((p : Int) == (q : Int)) = false := by rw [beq_eq_false_iff_ne]; omega
    have d2 : decide (q < p) = false := decide_eq_false (by omega)
    clear h
    go_enter Try.func10, Try.ntmps10
    go_wp2_with fail
    refine HN.out.mono ?_
    rintro e w1 ⟨a, rfl, hx, hA, hb⟩
    obtain ⟨g, rfl, hg⟩ : ∃ g, a = some ⟨g, 0, none⟩ ∧ g < w1.heap.size := by
      rcases hx with h | ⟨g, e, h, _⟩
      · cases h
      · exact ⟨g, e, h⟩
    have c0 : w1.cell? ⟨g, 0, none⟩ = some (.int .i64 (p : Int)) := nx_get hx 0 (by simp)
    have c1 : w1.cell? ⟨g, 1, none⟩ = some (.int .i64 (q : Int)) := nx_get hx 1 (by simp)
    have HR := hid (show Nx w1 (some ⟨g, 0, none⟩) [p, q] ∧ w.heap.size ≤ g ∧ Below w.heap.size w w1 from ⟨hx, hA _ rfl, hb⟩)
    clear hx hA hb HN hg
    go_wp2
    go_quiet (fail)
    go_wp2
    go_quiet (fail)
    go_wp2
    go_ret
    exact ⟨some ⟨g, 0, none⟩, 2, rfl, HR.out.1.below (bdrew (bdrew (Below.refl _ _) _) _), fun A hA => (by injection hA with hA; subst hA; exact HR.out.2.1), bdrew (bdrew HR.out.2.2 _) _⟩
  · subst h
    rw [if_pos rfl]
    go_enter Try.func10, Try.ntmps10
    go_wp2_with fail
    refine HN.out.mono ?_
    rintro e w1 ⟨a, rfl, hx, hA, hb⟩
    obtain ⟨g, rfl, hg⟩ : ∃ g, a = some ⟨g, 0, none⟩ ∧ g < w1.heap.size := by
      rcases hx with h | ⟨g, e, h, _⟩
      · cases h
      · exact ⟨g, e, h⟩
    have c0 : w1.cell? ⟨g, 0, none⟩ = some (.int .i64 (p : Int)) := nx_get hx 0 (by simp)
    have c1 : w1.cell? ⟨g, 1, none⟩ = some (.int .i64 (p : Int)) := nx_get hx 1 (by simp)
    have HR := hid (show g < w1.heap.size ∧ w1.cell? ⟨g, 0, none⟩ = some (.int .i64 (p : Int)) ∧ w.heap.size ≤ g ∧ Below w.heap.size w w1 from ⟨hg, c0, hA _ rfl, hb⟩)
    clear hx hA hb HN hg
    go_wp2
    go_quiet (fail)
    go_wp2
    go_ret
    refine ⟨some ⟨g, 0, none⟩, 2, rfl, .inr ⟨g, rfl, HR.out.1, fun k hk => ?_⟩, fun A hA => (by injection hA with hA; subst hA; exact HR.out.2.2.1), bdrew HR.out.2.2.2 _⟩
    have : k = 0 := by simp at hk; omega
    subst this
    exact HR.out.2.1
  · rw [if_neg (show ¬ p = q by omega), if_pos h]
    have d1 : ((p : Int) == (q : Int)) = false := by rw [beq_eq_false_iff_ne]; omega
    have d2 : decide (q < p) = true := decide_eq_true (by omega)
    clear h
    go_enter Try.func10, Try.ntmps10
    go_wp2_with fail
    refine HN.out.mono ?_
    rintro e w1 ⟨a, rfl, hx, hA, hb⟩
    obtain ⟨g, rfl, hg⟩ : ∃ g, a = some ⟨g, 0, none⟩ ∧ g < w1.heap.size := by
      rcases hx with h | ⟨g, e, h, _⟩
      · cases h
      · exact ⟨g, e, h⟩
    have c0 : w1.cell? ⟨g, 0, none⟩ = some (.int .i64 (p : Int)) := nx_get hx 0 (by simp)
    have c1 : w1.cell? ⟨g, 1, none⟩ = some (.int .i64 (q : Int)) := nx_get hx 1 (by simp)
    have HB := hid hb
    clear hx hA hb HN hg
    go_wp2
    go_quiet (fail)
    go_wp2
    go_quiet (fail)
    go_wp2
    refine wp_region_still_tail 6 (by kernel_rfl) (by kernel_rfl) ?_
    change wpStill _ _ (World.drew _) (fun a' => wpList _ _ _ _ a' (World.drew _)) _ _
    simp only [List.take_succ_cons, List.take_zero, List.drop_succ_cons, List.drop_zero]
    repeat still_step
    refine wpStill_nil ?_
    go_wp2
    go_ret
    refine ⟨some ⟨w1.heap.size, 0, none⟩, 2, rfl, .inr ⟨w1.heap.size, rfl, by simp, fun k hk => ?_⟩, fun A hA => (by injection hA with hA; subst hA; exact HB.out.size), ?_⟩
    · have h2 : k = 0 ∨ k = 1 := by simp at hk; omega
      have hc : ∀ W : World, (W.alloc (.cells #[.int .i64 (q : Int), .int .i64 (p : Int)] 3)).cell? ⟨W.heap.size, k, none⟩ = (#[.int .i64 (q : Int), .int .i64 (p : Int)] : Array Value)[k]? := fun W => cell_of_row _ _ k _ 3 (0, 0) (heap_alloc_last W _)
      refine (hc (w1.drewN _)).trans ?_
      rcases h2 with rfl | rfl <;> rfl
    · exact (bdrew HB.out _).alloc (by simpa using HB.out.size) _

theorem nxt_few {i : Nat} {x : M.I} (h : M.kind x.1 ≠ 12) : (M.nxt i x).length ≤ 1 := by
  unfold M.nxt
  rw [if_neg h]
  split
  · simp
  · split <;> simp
theorem rbehind_ly (b o n cap j : Nat) (l : List M.I) (hln : l.length = n) (hn : n ≤ 65536) (hj : j < l.length) (ok : ∀ i ∈ l, M.okI i) (w : World) (hl : Ly w b o l) (js : List Nat) (hjs : M.beh j (M.at0 l j) = js) :
    Calls Try.prog 10 #[.slice (some ⟨b, o, none⟩) n cap, .int .i64 j] w fun e w' => ∃ a c, e = .returned (.slice a js.length c) ∧ Nx w' a js ∧ (∀ A, a = some A → w.heap.size ≤ A.block) ∧ Below w.heap.size w w' := by
  have hx := M.at0_eq hj
  have okx := ok _ (List.getElem_mem hj)
  rw [hx] at hjs
  by_cases h : M.kind l[j].1 = 12
  · have hN := next_ly b o n cap j l hln hn hj ok w hl [j + 1 + l[j].2.1.toNat, j + 1 + l[j].2.2.1.toNat] 2 (M.nxt_jif h) rfl
    have hT := rbehind_two _ n cap j _ _ w hN
    have b1 := okx.2.1
    have b2 := okx.2.2.1
    have e : (if j + 1 + l[j].2.1.toNat = j + 1 + l[j].2.2.1.toNat then [j + 1 + l[j].2.1.toNat] else if j + 1 + l[j].2.2.1.toNat < j + 1 + l[j].2.1.toNat then [j + 1 + l[j].2.2.1.toNat, j + 1 + l[j].2.1.toNat] else [j + 1 + l[j].2.1.toNat, j + 1 + l[j].2.2.1.toNat]) = js := by
      rw [← hjs, M.beh_jif h]
      by_cases e1 : l[j].2.1 = l[j].2.2.1
      · rw [if_pos e1, if_pos (by rw [e1])]
      · rw [if_neg e1, if_neg (by omega)]
        by_cases e2 : l[j].2.2.1 < l[j].2.1
        · rw [if_pos e2, if_pos (by omega)]
        · rw [if_neg e2, if_neg (by omega)]
    rw [e] at hT
    exact hT
  · have hb : M.nxt j l[j] = js := by rw [← hjs, M.beh_not h]
    have hlen : js.length ≤ 1 := by rw [← hb]; exact nxt_few h
    have hN := next_ly b o n cap j l hln hn hj ok w hl js js.length hb rfl
    exact rbehind_few _ n cap j js.length js rfl (by omega) (by omega) w hN
end Go.Proofs.Ythfneidbaiebhaa.B
namespace Go.Proofs.Ythfneidbaiebhaa.M
theorem intoK_le (l : List I) (k j : Nat) : intoK l k j ≤ k := by
  unfold intoK
  have := List.length_filter_le (fun i => rch l i && (beh i (at0 l i)).contains j) (List.range k)
  rw [List.length_range] at this
  exact this
/-- a place is not among those ahead of it in a rising list -/
theorem take_not {js : List Nat} (hs : js.Pairwise (· < ·)) {q : Nat} (hq : q < js.length) : js[q] ∉ js.take q := by
  intro h
  obtain ⟨i, hi, e⟩ := List.getElem_of_mem h
  rw [List.length_take] at hi
  rw [List.getElem_take] at e
  have := List.pairwise_iff_getElem.1 hs i q (by omega) hq (by omega)
  omega
theorem take_succ_mem {js : List Nat} {q j : Nat} (hq : q < js.length) : j ∈ js.take (q + 1) ↔ j ∈ js.take q ∨ j = js[q] := by
  rw [List.take_succ_eq_append_getElem hq, List.mem_append, List.mem_singleton]
theorem beh_len (i : Nat) (x : I) : (beh i x).length ≤ 2 := by
  by_cases h : kind x.1 = 12
  · rw [beh_jif h]
    split
    · simp
    · split <;> simp
  · rw [beh_not h]; exact nxt_len i x
end Go.Proofs.Ythfneidbaiebhaa.M
namespace Go.Proofs.Ythfneidbaiebhaa.B
open Go.ChangeShapes Go.WideShapes Go.ChangeAt Go.RowKit
open Go.Sort hiding Below
set_option linter.unusedVariables false

theorem infoi : (Try.prog.info? 3).map (fun i => (i.zero, i.size, i.bytes)) = some (some (.int .i64 0), 1, 8) := by kernel_rfl
set_option maxHeartbeats 3200000 in
set_option maxRecDepth 100000 in
theorem rreached_any (b o n cap : Nat) (l : List M.I) (hln : l.length = n) (h0 : 0 < n) (hn : n ≤ 65536) (ok : ∀ i ∈ l, M.okI i) (w : World) (hl : Ly w b o l) :
    Calls Try.prog 17 #[.slice (some ⟨b, o, none⟩) n cap] w fun e w' => ∃ g, e = .returned (.slice (some ⟨g, 0, none⟩) n n) ∧ Row w' g n (fun j => .bool (M.rch l j)) ∧ Below w.heap.size w w' ∧ w.heap.size ≤ g := by
  have HC := hid (without_any b o n cap l hln h0 hn ok w hl (-1))
  clear ok hl hln
  go_enter Try.func17, Try.ntmps17
  go_wp2_with fail
  refine HC.out.mono ?_
  rintro e w1 ⟨g, rfl, hR, hb, hg⟩
  have HR := hid (And.intro hR (And.intro hb hg))
  clear hR hb hg
  go_wp2
  go_ret
  exact ⟨g, rfl, HR.out.1, HR.out.2.1, HR.out.2.2⟩

set_option maxHeartbeats 3200000 in
set_option maxRecDepth 1000000 in
theorem rinto_any (b o n cap : Nat) (l : List M.I) (hln : l.length = n) (hn : n ≤ 65536) (ok : ∀ i ∈ l, M.okI i) (hr : M.right l) (w : World) (hl : Ly w b o l) :
    Calls Try.prog 18 #[.slice (some ⟨b, o, none⟩) n cap] w fun e w' => ∃ g, e = .returned (.slice (some ⟨g, 0, none⟩) n n) ∧ Row w' g n (fun j => .int .i64 ((M.into l j : Nat) : Int)) ∧ Below w.heap.size w w' ∧ w.heap.size ≤ g := by
  obtain ⟨i0, hi, hz0, hz1, hz2⟩ := info_parts infoi
  have h0 : 0 < n := by rw [← hln]; exact ((M.right_iff l).1 hr).1.1
  have HC := hid (rreached_any b o n cap l hln h0 hn ok w hl)
  have HH := hid (And.intro hln (And.intro ok (And.intro hl hr)))
  have hbl : b < w.heap.size := hl.1
  clear hln ok hl hr
  go_enter Try.func18, Try.ntmps18
  go_wp2_with fail
  refine HC.out.mono ?_
  rintro e w1 ⟨gr, rfl, hR, hb, hg⟩
  have HR := hid (And.intro hR (And.intro hb hg))
  clear hR hb hg HC
  go_wp2_with (at_make; refine wpList_make_full _ rfl _ _ 24 rfl w1.heap.size 3 i0 (.int .i64 0) 1 Try.underlying24 hi hz0 hz1 .i64 .i64 n n n rfl rfl rfl rfl ?c1 ?c2 (Nat.le_refl _) ?_)
  case c1 => rw [hz2]; omega
  case c2 => unfold maxLen; omega
  intro wm hown hgrow
  have hbm : Below w1.heap.size w1 wm := (Below.refl _ _).grown hgrow (Nat.le_refl _) (by intro k hk; cases hk)
  have hR0 : Row wm w1.heap.size n (fun j => .int .i64 ((M.intoK l 0 j : Nat) : Int)) := (Row.of_own hown (fun j hj => made_get (.int .i64 0) n j hj) (hown.lt _ rfl).2).congr fun j _ => rfl
  have hgr : gr < w1.heap.size := HR.out.1.lt
  have hw1 : w.heap.size ≤ w1.heap.size := HR.out.2.1.size
  have HM := hid (show Row wm gr n (fun j => .bool (M.rch l j)) ∧ Row wm w1.heap.size n (fun j => .int .i64 ((M.intoK l 0 j : Nat) : Int)) ∧ Below w.heap.size w wm from ⟨HR.out.1.below hbm, hR0, (stp (hid HR.out.2.1) hbm).out⟩)
  clear hown hgrow hbm hR0 HR
  go_wp2
  go_loopw [5] (fun i wr => ∃ k : Nat, k ≤ n ∧ i = .int .i64 k ∧ Hid (Row wr gr n (fun j => .bool (M.rch l j)) ∧ Row wr w1.heap.size n (fun j => .int .i64 ((M.intoK l k j : Nat) : Int)) ∧ Below w.heap.size w wr)) (fun i _ => n - (intOf i).toNat)
  case atStart => exact ⟨0, Nat.zero_le _, rfl, HM.out⟩
  case round =>
    clear HM
    obtain ⟨k, hk, rfl, HR⟩ := hrel
    by_cases hlt : k < n
    · have i2 : (k : Int) < (n : Int) := by omega
      have hkl : k < l.length := by rw [HH.out.1]; exact hlt
      have cr := HR.out.1.cell k hlt
      cases hc : M.rch l k with
      | false =>
        simp only [hc] at cr
        have HF := hid (show ∀ j, M.intoK l (k + 1) j = M.intoK l k j by intro j; rw [M.intoK_succ, hc]; simp)
        clear hc
        go_wp2
        go_roundw
        case rel => exact ⟨k + 1, by omega, by go_num, HR.out.1, HR.out.2.1.congr fun j _ => by rw [HF.out], HR.out.2.2⟩
        case measure => simp [intOf]; omega
      | true =>
        simp only [hc] at cr
        obtain ⟨js, hjs⟩ : ∃ js, M.beh k (M.at0 l k) = js := ⟨_, rfl⟩
        have HN := hid (fun W h => rbehind_ly b o n cap k l HH.out.1 hn hkl HH.out.2.1 W h js hjs)
        have HJ := hid (show js.Pairwise (· < ·) ∧ (∀ y ∈ js, y < n) ∧ ∀ j, M.intoK l (k + 1) j = M.intoK l k j + (if j ∈ js then 1 else 0) from
          ⟨by rw [← hjs]; exact M.beh_sorted (M.at0_ok HH.out.2.1 k), fun y hy => by rw [← hjs] at hy; rw [← HH.out.1]; exact M.beh_lt HH.out.2.2.2 HH.out.2.1 hkl hy, fun j => by rw [M.intoK_succ, hc, hjs]; simp⟩)
        have hlen : js.length ≤ 2 := by rw [← hjs]; exact M.beh_len _ _
        clear hjs hc
        obtain ⟨m, hm⟩ : ∃ m, js.length = m := ⟨_, rfl⟩
        rw [hm] at HN hlen
        go_wp2_with fail
        refine (HN.out _ (HH.out.2.2.1.far HR.out.2.2 hbl)).mono ?_
        rintro e w3 ⟨a, ca, rfl, hnx, hfr, hb⟩
        have HI := hid (show Row w3 gr n (fun j => .bool (M.rch l j)) ∧ Row w3 w1.heap.size n (fun j => .int .i64 ((M.intoK l k j + (if j ∈ js.take 0 then 1 else 0) : Nat) : Int)) ∧ Below w.heap.size w w3 ∧ Nx w3 a js from
          ⟨HR.out.1.below hb, (HR.out.2.1.below hb).congr fun j _ => by simp, (stp (hid HR.out.2.2) hb).out, hnx⟩)
        have HGN := hid (show ∀ A, a = some A → A.block ≠ w1.heap.size from fun A hA => by have := hfr A hA; have := HR.out.2.1.lt; omega)
        have HMM := hid hm
        clear hb hnx hfr HN HR cr hm
        go_wp2
        go_loopw [7] (fun i wr => ∃ q : Nat, q ≤ m ∧ i = .int .i64 q ∧ Hid (Row wr gr n (fun j => .bool (M.rch l j)) ∧ Row wr w1.heap.size n (fun j => .int .i64 ((M.intoK l k j + (if j ∈ js.take q then 1 else 0) : Nat) : Int)) ∧ Below w.heap.size w wr ∧ Nx wr a js)) (fun i _ => m - (intOf i).toNat)
        case atStart => exact ⟨0, Nat.zero_le _, rfl, HI.out⟩
        case round =>
          clear HI
          obtain ⟨q, hq, rfl, HQ⟩ := hrel
          by_cases hq2 : q < m
          · have i3 : (q : Int) < (m : Int) := by omega
            have hqj : q < js.length := by rw [HMM.out]; exact hq2
            obtain ⟨g', rfl⟩ : ∃ g', a = some ⟨g', 0, none⟩ := by
              rcases HQ.out.2.2.2 with h | ⟨g', e, _⟩
              · rw [h] at hqj; simp at hqj
              · exact ⟨g', e⟩
            have cy := nx_get HQ.out.2.2.2 q hqj
            obtain ⟨y, hy⟩ : ∃ y, js[q] = y := ⟨_, rfl⟩
            rw [hy] at cy
            have hyn : y < n := HJ.out.2.1 y (by rw [← hy]; exact List.getElem_mem hqj)
            have i4 : (y : Int) < (n : Int) := by omega
            have hnot : y ∉ js.take q := by rw [← hy]; exact M.take_not HJ.out.1 hqj
            have HT := hid (show ∀ j, j ∈ js.take (q + 1) ↔ j ∈ js.take q ∨ j = y by intro j; rw [M.take_succ_mem hqj, hy])
            have cR := HQ.out.2.1.cell y hyn
            have fR := HQ.out.2.1.froz y hyn
            simp only [if_neg hnot, Nat.add_zero] at cR
            obtain ⟨v, hv⟩ : ∃ v, M.intoK l k y = v := ⟨_, rfl⟩
            rw [hv] at cR
            have hvb : v ≤ 65536 := by rw [← hv]; have := M.intoK_le l k y; omega
            have HV := hid hv
            have HNT := hid hnot
            clear hy hv hnot
            go_wp2
            go_roundw
            case rel => exact ⟨q + 1, by omega, by go_num, HQ.out.1.other _ _ _ (by omega), (HQ.out.2.1.set y hyn _).congr (fun j hj => by
              by_cases e : j = y
              · subst e
                rw [if_pos rfl, HV.out, if_pos ((HT.out j).2 (.inr rfl))]
                simp
              · rw [if_neg e]
                by_cases e2 : j ∈ js.take q
                · rw [if_pos e2, if_pos ((HT.out j).2 (.inl e2))]
                · rw [if_neg e2, if_neg (fun h => by rcases (HT.out j).1 h with h | h <;> contradiction)]), HQ.out.2.2.1.setCell (by simp; omega) _, HQ.out.2.2.2.off HGN.out⟩
            case measure => simp [intOf]; omega
          · obtain rfl : q = m := by omega
            have HF := hid (show Row wr w1.heap.size n (fun j => .int .i64 ((M.intoK l (k + 1) j : Nat) : Int)) from HQ.out.2.1.congr fun j _ => by rw [HJ.out.2.2 j, ← HMM.out, List.take_length])
            go_wp2
            go_roundw
            case rel => exact ⟨k + 1, by omega, by go_num, HQ.out.1, HF.out, HQ.out.2.2.1⟩
            case measure => simp [intOf]; omega
    · obtain rfl : k = n := by omega
      have HF := hid (show Row wr w1.heap.size k (fun j => .int .i64 ((M.into l j : Nat) : Int)) from HR.out.2.1.congr fun j _ => by unfold M.into; rw [HH.out.1])
      go_wp2
      go_ret
      exact ⟨w1.heap.size, rfl, HF.out, HR.out.2.2, hw1⟩
end Go.Proofs.Ythfneidbaiebhaa.B
