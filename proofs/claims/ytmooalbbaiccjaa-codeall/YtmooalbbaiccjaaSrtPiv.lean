/-
  Where the library looks for the middle one of some numbers, as walks over the Go text.
-/
import Derived.Test.YtmooalbbaiccjaaSrtBase
namespace Go.Proofs.Ytmooalbbaiccjaa.B
open Go.ChangeShapes Go.WideShapes Go.ChangeAt Go.RowKit
open Go.Sort hiding Below
set_option linter.unusedVariables false

theorem cell_new (w : World) (v : Value) (t : TypeId) : (w.alloc (.cells #[v] t)).cell? ⟨w.heap.size, 0, none⟩ = some v ∧ (w.alloc (.cells #[v] t)).frozen? ⟨w.heap.size, 0, none⟩ = false := by
  have e : (w.alloc (.cells #[v] t)).heap[w.heap.size]? = some (.cells #[v] t) := by rw [alloc_eq_grow]; unfold grow; simp only; rw [Array.getElem?_append_right (Nat.le_refl _), Nat.sub_self]; rfl
  unfold World.cell? World.frozen?
  simp only [e]
  exact ⟨rfl, rfl⟩

/-- A counter that lies in a block of its own. -/
structure Cnt (W : World) (p s : Nat) : Prop where
  cell : W.cell? ⟨p, 0, none⟩ = some (.int .i64 (s : Int))
  frozen : W.frozen? ⟨p, 0, none⟩ = false

theorem order2_yes (d : Array Int) (a c s : Nat) (h : ltInt d[c]! d[a]! = true) : order2 ltInt d a c s = (c, a, s + 1) := by rw [order2, if_pos h]
theorem order2_no (d : Array Int) (a c s : Nat) (h : ltInt d[c]! d[a]! = false) : order2 ltInt d a c s = (a, c, s) := by rw [order2, if_neg (by rw [h]; simp)]
theorem order2_le (d : Array Int) (a c s N : Nat) (ha : a < N) (hc : c < N) : (order2 ltInt d a c s).1 < N ∧ (order2 ltInt d a c s).2.1 < N ∧ (order2 ltInt d a c s).2.2 ≤ s + 1 := by
  unfold order2; split <;> simp <;> omega

set_option maxHeartbeats 4000000 in
theorem order2_any {N n₀ b o : Nat} {w : World} (cap a c s p : Nat) (d : Array Int) (W : World) (h : Rw N n₀ b o w d W) (hp : Cnt W p s) (hpb : p ≠ b) (hpn : n₀ ≤ p) (ha : a < N) (hc : c < N) (hs : s < 100) :
    Calls Try.prog 49 #[.slice (some ⟨b, o, none⟩) N cap, .int .i64 a, .int .i64 c, .pointer (some ⟨p, 0, none⟩)] W fun e W' =>
      e = .returned (.tuple #[.int .i64 ((order2 ltInt d a c s).1 : Nat), .int .i64 ((order2 ltInt d a c s).2.1 : Nat)]) ∧ Rw N n₀ b o w d W' ∧ Cnt W' p (order2 ltInt d a c s).2.2 := by
  obtain ⟨G, HG, hcw, hfw⟩ := h.opn
  have HK : Hid (Rw N n₀ b o w d W) := h
  have hp1 := hp.cell
  have hp2 := hp.frozen
  clear h hp
  go_enter Try.func49, Try.ntmps49
  go_wp2_with fail
  go_quiet (first | (go_at_call 38; refine Calls.quiet_of_same (less_any _ _ _)))
  go_wp2
  · have hl : ltInt (G c) (G a) = true := by assumption
    rw [HG.out, HG.out] at hl
    refine bodyPost_ret (results_tmp2 rfl _ _ _) rfl ?_
    rw [order2_yes _ _ _ _ hl]
    refine ⟨rfl, (HK.out.drewN nq).other p 0 _ hpn hpb, ⟨?_, ?_⟩⟩
    · rw [World.cell?_setCell_same' _ _ _ (by rw [show (W.drewN nq).cell? ⟨p, 0, none⟩ = W.cell? ⟨p, 0, none⟩ from rfl, hp1]; rfl)]; rfl
    · rw [World.frozen?_setCell]; exact hp2
  · have hl : ltInt (G c) (G a) = false := by assumption
    rw [HG.out, HG.out] at hl
    refine bodyPost_ret (results_tmp2 rfl _ _ _) rfl ?_
    rw [order2_no _ _ _ _ hl]
    exact ⟨rfl, HK.out.drewN nq, hp1, hp2⟩

theorem median_eq (d : Array Int) (a c e s a1 c1 s1 c2 e2 s2 a3 c3 s3 : Nat) (h1 : order2 ltInt d a c s = (a1, c1, s1)) (h2 : order2 ltInt d c1 e s1 = (c2, e2, s2)) (h3 : order2 ltInt d a1 c2 s2 = (a3, c3, s3)) : median ltInt d a c e s = (c3, s3) := by
  unfold median; simp only [h1, h2, h3]

set_option maxHeartbeats 4000000 in
theorem median_any {N n₀ b o : Nat} {w : World} (cap a c e s p : Nat) (d : Array Int) (W : World) (h : Rw N n₀ b o w d W) (hp : Cnt W p s) (hpb : p ≠ b) (hpn : n₀ ≤ p) (ha : a < N) (hc : c < N) (he : e < N) (hs : s < 50) :
    Calls Try.prog 47 #[.slice (some ⟨b, o, none⟩) N cap, .int .i64 a, .int .i64 c, .int .i64 e, .pointer (some ⟨p, 0, none⟩)] W fun x W' =>
      x = .returned (.int .i64 ((median ltInt d a c e s).1 : Nat)) ∧ Rw N n₀ b o w d W' ∧ Cnt W' p (median ltInt d a c e s).2 := by
  obtain ⟨⟨a1, c1, s1⟩, h1⟩ : ∃ r, order2 ltInt d a c s = r := ⟨_, rfl⟩
  obtain ⟨⟨c2, e2, s2⟩, h2⟩ : ∃ r, order2 ltInt d c1 e s1 = r := ⟨_, rfl⟩
  obtain ⟨⟨a3, c3, s3⟩, h3⟩ : ∃ r, order2 ltInt d a1 c2 s2 = r := ⟨_, rfl⟩
  have l1 := order2_le d a c s N ha hc
  rw [h1] at l1
  have l2 := order2_le d c1 e s1 N l1.2.1 he
  rw [h2] at l2
  have l3 := order2_le d a1 c2 s2 N l1.1 l2.1
  rw [h3] at l3
  simp only at l1 l2 l3
  rw [median_eq d a c e s a1 c1 s1 c2 e2 s2 a3 c3 s3 h1 h2 h3]
  have HH : Hid (Rw N n₀ b o w d W ∧ Cnt W p s) := ⟨h, hp⟩
  have H1 : Hid (order2 ltInt d a c s = (a1, c1, s1)) := h1
  have H2 : Hid (order2 ltInt d c1 e s1 = (c2, e2, s2)) := h2
  have H3 : Hid (order2 ltInt d a1 c2 s2 = (a3, c3, s3)) := h3
  clear h hp h1 h2 h3
  go_enter Try.func47, Try.ntmps47
  go_wp2_with fail
  have c1' := order2_any cap a c s p d W HH.out.1 HH.out.2 hpb hpn ha hc (by omega)
  rw [H1.out] at c1'
  refine c1'.mono ?_
  clear c1'
  rintro x W1 ⟨rfl, r1, p1⟩
  have HA : Hid (Rw N n₀ b o w d W1 ∧ Cnt W1 p s1) := ⟨r1, p1⟩
  clear r1 p1
  go_wp2_with fail
  have c2' := order2_any cap c1 e s1 p d W1 HA.out.1 HA.out.2 hpb hpn l1.2.1 he (by omega)
  rw [H2.out] at c2'
  refine c2'.mono ?_
  clear c2'
  rintro x W2 ⟨rfl, r2, p2⟩
  have HB : Hid (Rw N n₀ b o w d W2 ∧ Cnt W2 p s2) := ⟨r2, p2⟩
  clear r2 p2
  go_wp2_with fail
  have c3' := order2_any cap a1 c2 s2 p d W2 HB.out.1 HB.out.2 hpb hpn l1.1 l2.1 (by omega)
  rw [H3.out] at c3'
  refine c3'.mono ?_
  clear c3'
  rintro x W3 ⟨rfl, r3, p3⟩
  have HC : Hid (Rw N n₀ b o w d W3 ∧ Cnt W3 p s3) := ⟨r3, p3⟩
  clear r3 p3
  go_wp2
  go_ret
  exact ⟨rfl, HC.out⟩

/-- A hint, as the program writes it. -/
def hintNo : Hint → Int | .unknown => 0 | .increasing => 1 | .decreasing => 2

theorem pivot_eq (d : Array Int) (a c j s : Nat) (h8 : 8 ≤ c - a) (h50 : c - a < 50) (h : median ltInt d (a + (c - a) / 4 * 1) (a + (c - a) / 4 * 2) (a + (c - a) / 4 * 3) 0 = (j, s)) :
    choosePivot ltInt d a c = (j, if s = 0 then .increasing else if s = 12 then .decreasing else .unknown) := by
  unfold choosePivot
  simp only [ge_iff_le, h8, if_true, show ¬ 50 ≤ c - a by omega, if_false, h]
theorem median_le (d : Array Int) (a c e s N : Nat) (ha : a < N) (hc : c < N) (he : e < N) : (median ltInt d a c e s).1 < N ∧ (median ltInt d a c e s).2 ≤ s + 3 := by
  have l1 := order2_le d a c s N ha hc
  have l2 := order2_le d _ e (order2 ltInt d a c s).2.2 N l1.2.1 he
  have l3 := order2_le d _ _ (order2 ltInt d (order2 ltInt d a c s).2.1 e (order2 ltInt d a c s).2.2).2.2 N l1.1 l2.1
  unfold median
  simp only
  exact ⟨l3.2.1, by omega⟩

set_option maxHeartbeats 4000000 in
theorem pivot_any {N n₀ b o : Nat} {w : World} (cap a c : Nat) (d : Array Int) (W : World) (h : Rw N n₀ b o w d W) (h8 : 8 ≤ c - a) (hc : c ≤ N) (hN : N < 50) :
    Calls Try.prog 35 #[.slice (some ⟨b, o, none⟩) N cap, .int .i64 a, .int .i64 c] W fun x W' =>
      x = .returned (.tuple #[.int .i64 ((choosePivot ltInt d a c).1 : Nat), .int .i64 (hintNo (choosePivot ltInt d a c).2)]) ∧ Rw N n₀ b o w d W' := by
  obtain ⟨⟨j, s⟩, hj⟩ : ∃ r, median ltInt d (a + (c - a) / 4 * 1) (a + (c - a) / 4 * 2) (a + (c - a) / 4 * 3) 0 = r := ⟨_, rfl⟩
  have hm := median_le d (a + (c - a) / 4 * 1) (a + (c - a) / 4 * 2) (a + (c - a) / 4 * 3) 0 N (by omega) (by omega) (by omega)
  rw [hj] at hm
  simp only at hm
  rw [pivot_eq d a c j s h8 (by omega) hj]
  have hblt := h.lt
  have hfr := h.fresh
  have cn : Cnt (W.alloc (Obj.cells #[Value.int .i64 0] 3)) W.heap.size 0 := ⟨(cell_new W (.int .i64 0) 3).1, (cell_new W (.int .i64 0) 3).2⟩
  have cm := median_any cap (a + (c - a) / 4 * 1) (a + (c - a) / 4 * 2) (a + (c - a) / 4 * 3) 0 W.heap.size d (W.alloc (Obj.cells #[Value.int .i64 0] 3)) (h.alloc _) cn (by omega) (by omega) (by omega) (by omega) (by omega) (by omega)
  rw [hj, show ((a + (c - a) / 4 * 1 : Nat) : Int) = ↑a + (↑c - ↑a) / 4 by omega, show ((a + (c - a) / 4 * 2 : Nat) : Int) = ↑a + (↑c - ↑a) / 4 * 2 by omega, show ((a + (c - a) / 4 * 3 : Nat) : Int) = ↑a + (↑c - ↑a) / 4 * 3 by omega] at cm
  have CM : Hid _ := cm
  have HJ : Hid (median ltInt d (a + (c - a) / 4 * 1) (a + (c - a) / 4 * 2) (a + (c - a) / 4 * 3) 0 = (j, s)) := hj
  clear cm hj h cn
  go_enter Try.func35, Try.ntmps35
  go_wp2_with fail
  refine Calls.mono CM.out ?_
  clear CM
  rintro x W1 ⟨rfl, hr, hcn⟩
  have hc1 := hcn.cell
  have HR : Hid (Rw N n₀ b o w d W1) := hr
  clear hr hcn
  by_cases s0 : s = 0
  · subst s0
    go_wp2
    refine bodyPost_ret (results_tmp2 rfl _ _ _) rfl ?_
    exact ⟨rfl, HR.out⟩
  · have s12 : s ≠ 12 := by omega
    have t0 : (((s : Nat) : Int) == 0) = false := by simpa using s0
    have t12 : (((s : Nat) : Int) == 12) = false := by simp; omega
    go_wp2
    refine bodyPost_ret (results_tmp2 rfl _ _ _) rfl ?_
    exact ⟨by first | rfl | simp [s0, s12, hintNo], HR.out⟩
end Go.Proofs.Ytmooalbbaiccjaa.B
