/-
  The program's small functions of layer 12: reckoned, turns, leaves, swallows, hasA, hasB, moved, as walks over the Go text.
-/
import Derived.Test.YtapbeffjnpgglabTerCodI
import Derived.Test.YtapbeffjnpgglabS1
import Derived.Test.YtapbeffjnpgglabTC2
import Derived.WalkSpells
import Derived.Test.YtapbeffjnpgglabSimLawP
namespace Go.Proofs.Ytapbeffjnpgglab.TM
set_option linter.unusedVariables false
theorem told_val {op : Int} (h : isOp op = true) (a b : Int) : told op a b = WM.val op a b := by
  by_cases e : op = 48
  · subst e
    unfold told
    by_cases hb : b = 0
    · subst hb; rw [if_neg (by decide), WM.v_div, if_pos rfl]
    · rw [if_pos (by unfold WM.ok; simp [hb])]
  · exact told_on e h a b
theorem isOp_has {op : Int} (h : isA op = true) : decide (256 ≤ op) = true := decide_eq_true (by have := isA_12 h; omega)
end Go.Proofs.Ytapbeffjnpgglab.TM
namespace Go.Proofs.Ytapbeffjnpgglab.TB
open Go.ChangeShapes Go.WideShapes Go.ChangeAt Go.RowKit
open Go.Sort hiding Below
set_option linter.unusedVariables false
set_option maxRecDepth 100000

set_option maxHeartbeats 1600000 in
theorem creckoned (op a b : Int) (ho : TM.isOp op = true) (ha : TM.W32 a) (hb : TM.W32 b) (w : World) :
    Calls Try.prog 42 #[.int .i64 op, .int .u32 a, .int .u32 b] w fun e w' => e = .returned (.int .u32 (TM.told op a b)) ∧ Below w.heap.size w w' := by
  rw [TM.told_val ho]
  have HA := hid (WB.alu_any op a b ha.1 ha.2 hb.1 w)
  have HB := hid (Below.refl w.heap.size w)
  clear ho ha hb
  go_enter Try.func42, Try.ntmps42
  go_wp2_with (go_at_call 19; refine HA.out.mono ?_; rintro e w1 ⟨rfl, rfl⟩; clear HA)
  go_ret
  exact ⟨rfl, HB.out⟩
set_option maxHeartbeats 1600000 in
theorem cturns (op : Int) (ho : TM.isOp op = true) (w : World) :
    Calls Try.prog 33 #[.int .i64 op] w fun e w' => e = .returned (.bool (TM.trn op)) ∧ Below w.heap.size w w' := by
  have HB := hid (Below.refl w.heap.size w)
  rcases TM.isOp_iff.1 ho with rfl | rfl | rfl | rfl | rfl | rfl | rfl | rfl | rfl | rfl
  all_goals
    clear ho
    go_enter Try.func33, Try.ntmps33
    go_wp2
    go_ret
    exact ⟨rfl, HB.out⟩
set_option maxHeartbeats 1600000 in
theorem cleaves (op k : Int) (ho : TM.isOp op = true) (w : World) :
    Calls Try.prog 43 #[.int .i64 op, .int .u32 k] w fun e w' => e = .returned (.bool (TM.idleB op k)) ∧ Below w.heap.size w w' := by
  have HB := hid (Below.refl w.heap.size w)
  have e0 : TM.idleB 0 k = (k == 0) := by simp [TM.idleB]
  have e1 : TM.idleB 16 k = (k == 0) := by simp [TM.idleB]
  have e2 : TM.idleB 32 k = (k == 1) := by simp [TM.idleB]
  have e3 : TM.idleB 48 k = (k == 1) := by simp [TM.idleB]
  have e4 : TM.idleB 64 k = (k == 0) := by simp [TM.idleB]
  have e5 : TM.idleB 80 k = (k == 4294967295) := by simp [TM.idleB]
  have e6 : TM.idleB 96 k = (k == 0) := by simp [TM.idleB]
  have e7 : TM.idleB 112 k = (k == 0) := by simp [TM.idleB]
  have e8 : TM.idleB 128 k = false := by simp [TM.idleB]
  have e9 : TM.idleB 160 k = (k == 0) := by simp [TM.idleB]
  rcases TM.isOp_iff.1 ho with rfl | rfl | rfl | rfl | rfl | rfl | rfl | rfl | rfl | rfl
  all_goals
    first | rw [e0] | rw [e1] | rw [e2] | rw [e3] | rw [e4] | rw [e5] | rw [e6] | rw [e7] | rw [e8] | rw [e9]
    clear ho e0 e1 e2 e3 e4 e5 e6 e7 e8 e9
    go_enter Try.func43, Try.ntmps43
    go_wp2
    go_ret
    exact ⟨rfl, HB.out⟩
set_option maxHeartbeats 1600000 in
theorem cswallows (op k : Int) (ho : TM.isOp op = true) (w : World) :
    Calls Try.prog 44 #[.int .i64 op, .int .u32 k] w fun e w' => e = .returned (.bool (TM.zeroB op k || TM.fullB op k)) ∧ Below w.heap.size w w' := by
  have HB := hid (Below.refl w.heap.size w)
  have e0 : (TM.zeroB 0 k || TM.fullB 0 k) = false := by simp [TM.zeroB, TM.fullB]
  have e1 : (TM.zeroB 16 k || TM.fullB 16 k) = false := by simp [TM.zeroB, TM.fullB]
  have e2 : (TM.zeroB 32 k || TM.fullB 32 k) = (k == 0) := by simp [TM.zeroB, TM.fullB]
  have e3 : (TM.zeroB 48 k || TM.fullB 48 k) = (k == 0) := by simp [TM.zeroB, TM.fullB]
  have e4 : (TM.zeroB 64 k || TM.fullB 64 k) = (k == 4294967295) := by simp [TM.zeroB, TM.fullB]
  have e5 : (TM.zeroB 80 k || TM.fullB 80 k) = (k == 0) := by simp [TM.zeroB, TM.fullB]
  have e6 : (TM.zeroB 96 k || TM.fullB 96 k) = false := by simp [TM.zeroB, TM.fullB]
  have e7 : (TM.zeroB 112 k || TM.fullB 112 k) = false := by simp [TM.zeroB, TM.fullB]
  have e8 : (TM.zeroB 128 k || TM.fullB 128 k) = false := by simp [TM.zeroB, TM.fullB]
  have e9 : (TM.zeroB 160 k || TM.fullB 160 k) = false := by simp [TM.zeroB, TM.fullB]
  rcases TM.isOp_iff.1 ho with rfl | rfl | rfl | rfl | rfl | rfl | rfl | rfl | rfl | rfl
  all_goals
    first | rw [e0] | rw [e1] | rw [e2] | rw [e3] | rw [e4] | rw [e5] | rw [e6] | rw [e7] | rw [e8] | rw [e9]
    clear ho e0 e1 e2 e3 e4 e5 e6 e7 e8 e9
    go_enter Try.func44, Try.ntmps44
    go_wp2
    go_ret
    exact ⟨rfl, HB.out⟩
set_option maxHeartbeats 1600000 in
theorem chasA (o a b k : Int) (q : Bool) (hq : decide (256 ≤ o) = q) (w : World) :
    Calls Try.prog 36 #[.agg #[.int .i64 o, .int .i64 a, .int .i64 b, .int .u32 k]] w fun e w' => e = .returned (.bool q) ∧ Below w.heap.size w w' := by
  subst hq
  have HB := hid (al w (.cells #[.int .i64 o, .int .i64 a, .int .i64 b, .int .u32 k] 40))
  go_enter Try.func36, Try.ntmps36
  go_wp2
  go_ret
  exact ⟨rfl, HB.out⟩
set_option maxHeartbeats 1600000 in
theorem chasB (o a b k : Int) (q : Bool) (hq : (decide (256 ≤ o) && (o != 384)) = q) (w : World) :
    Calls Try.prog 37 #[.agg #[.int .i64 o, .int .i64 a, .int .i64 b, .int .u32 k]] w fun e w' => e = .returned (.bool q) ∧ Below w.heap.size w w' := by
  have HB := hid (al w (.cells #[.int .i64 o, .int .i64 a, .int .i64 b, .int .u32 k] 40))
  have HC := hid (fun W q h => chasA o a b k q h W)
  have HN := hid (NAt.new w o a b k)
  cases hA : decide (256 ≤ o) with
  | false =>
    rw [hA] at hq
    obtain rfl : false = q := hq
    go_enter Try.func37, Try.ntmps37
    go_wp2_with (go_at_call 36; refine (HC.out _ _ hA).mono ?_; rintro e w1 ⟨rfl, hb⟩; have HB1 := stp HB hb; clear hb HC)
    go_ret
    exact ⟨rfl, HB1.out⟩
  | true =>
    rw [hA] at hq
    obtain rfl : (o != 384) = q := hq
    go_enter Try.func37, Try.ntmps37
    go_wp2_with (go_at_call 36; refine (HC.out _ _ hA).mono ?_; rintro e w1 ⟨rfl, hb⟩; have HB1 := stp HB hb; have HN1 := hid (HN.out.below hb); obtain ⟨q0, q1, q2, q3, qf⟩ := HN1.out.cells; clear hb HC)
    go_ret
    exact ⟨rfl, HB1.out⟩
set_option maxHeartbeats 3200000 in
theorem cmoved (x : TM.N) (i : Nat) (hx : TM.may x i = true) (g n c : Nat) (hi : i ≤ n) (hn : n ≤ 65536) (V : Nat → Nat) (w : World) (hR : Row w g n (fun j => .int .i64 ((V j : Nat) : Int))) :
    Calls Try.prog 23 #[.agg #[.int .i64 x.1, .int .i64 x.2.1, .int .i64 x.2.2.1, .int .u32 x.2.2.2], .slice (some ⟨g, 0, none⟩) n c] w fun e w' => e = .returned (.agg #[.int .i64 (TM.moved x V).1, .int .i64 (TM.moved x V).2.1, .int .i64 (TM.moved x V).2.2.1, .int .u32 (TM.moved x V).2.2.2]) ∧ Below w.heap.size w w' := by
  have hm := TM.may_ok hx
  obtain ⟨xo, xa, xb, xk⟩ := x
  simp only at hm ⊢
  have HS := hid (RnSt.new xo xa xb xk hR)
  clear hR hx
  by_cases h2 : xo ≤ 2
  · have hz : decide (256 ≤ xo) = false := decide_eq_false (by omega)
    have hz2 : (decide (256 ≤ xo) && (xo != 384)) = false := by rw [hz]; rfl
    have hmv : TM.moved (xo, xa, xb, xk) V = (xo, xa, xb, xk) := by unfold TM.moved; rw [if_pos h2]
    rw [hmv]
    have HP1 := hid (fun W => chasA xo xa xb xk false hz W)
    have HP2 := hid (fun W => chasB xo xa xb xk false hz2 W)
    clear hm h2 hmv hz hz2
    go_enter Try.func23, Try.ntmps23
    go_wp2_with (first
      | (go_at_call 36; refine (HP1.out _).mono ?_; clear HP1; rintro e w1 ⟨rfl, hb⟩; have HS1 := hid (HS.out.below hb); clear hb HS; obtain ⟨q0, q1, q2, q3, _⟩ := HS1.out.n1.cells; obtain ⟨r0, r1, r2, r3, rf⟩ := HS1.out.n2.cells)
      | (go_at_call 37; refine (HP2.out _).mono ?_; clear HP2; rintro e w2 ⟨rfl, hb⟩; have HS2 := hid (HS1.out.below hb); clear hb HS1 q0 q1 q2 q3 r0 r1 r2 r3 rf; obtain ⟨q0, q1, q2, q3, _⟩ := HS2.out.n1.cells; obtain ⟨r0, r1, r2, r3, rf⟩ := HS2.out.n2.cells))
    have hZ := HS2.out.n2.put (xo, xa, xb, xk)
    have hZ2 := nput_below (x := (xo, xa, xb, xk)) HS2.out.bl (Nat.le_succ _)
    unfold nput at hZ hZ2
    simp only at hZ hZ2
    clear HS2 q0 q1 q2 q3 r0 r1 r2 r3 rf
    refine bodyPost_ret (results_node (p := 4) (x := (xo, xa, xb, xk)) rfl _ _ rfl hZ) rfl ?_
    exact ⟨rfl, hZ2⟩
  · have ha : 0 ≤ xa ∧ xa < i := by rcases hm with h | h | h | h <;> omega
    obtain ⟨a1, rfl⟩ : ∃ a1 : Nat, xa = a1 := ⟨xa.toNat, by omega⟩
    have ha1 : a1 < n := by omega
    have i3 : (a1 : Int) < (n : Int) := by omega
    by_cases h3 : xo = 384
    · subst h3
      have hmv : TM.moved (384, (a1 : Int), xb, xk) V = (384, ((V a1 : Nat) : Int), xb, xk) := by unfold TM.moved; rw [if_neg h2, if_pos rfl]; rfl
      rw [hmv]
      have HP1 := hid (fun W => chasA 384 (a1 : Int) xb xk true rfl W)
      have HP2 := hid (fun W => chasB 384 ((V a1 : Nat) : Int) xb xk false rfl W)
      clear hm h2 hmv
      go_enter Try.func23, Try.ntmps23
      go_wp2_with (first
        | (go_at_call 36; refine (HP1.out _).mono ?_; clear HP1; rintro e w1 ⟨rfl, hb⟩; have HS1 := hid (HS.out.below hb); clear hb HS; obtain ⟨q0, q1, q2, q3, qf⟩ := HS1.out.n1.cells; obtain ⟨r0, r1, r2, r3, rf⟩ := HS1.out.n2.cells; have cA := HS1.out.rw.cell a1 ha1; have HS2 := hid (HS1.out.set1 ((V a1 : Nat) : Int)); obtain ⟨s0, s1, s2, s3, sf⟩ := HS2.out.n1.cells; obtain ⟨u0, u1, u2, u3, uf⟩ := HS2.out.n2.cells)
        | (go_at_call 37; refine (HP2.out _).mono ?_; clear HP2; rintro e w2 ⟨rfl, hb⟩; have HS3 := hid (HS2.out.below hb); clear hb HS1 HS2 q0 q1 q2 q3 qf r0 r1 r2 r3 rf s0 s1 s2 s3 sf u0 u1 u2 u3 uf cA; obtain ⟨q0, q1, q2, q3, _⟩ := HS3.out.n1.cells; obtain ⟨r0, r1, r2, r3, rf⟩ := HS3.out.n2.cells))
      have hZ := HS3.out.n2.put (384, ((V a1 : Nat) : Int), xb, xk)
      have hZ2 := nput_below (x := (384, ((V a1 : Nat) : Int), xb, xk)) HS3.out.bl (Nat.le_succ _)
      unfold nput at hZ hZ2
      simp only at hZ hZ2
      clear HS3 q0 q1 q2 q3 r0 r1 r2 r3 rf
      refine bodyPost_ret (results_node (p := 4) (x := (384, ((V a1 : Nat) : Int), xb, xk)) rfl _ _ rfl hZ) rfl ?_
      exact ⟨rfl, hZ2⟩
    · have hb0 : 0 ≤ xb ∧ xb < i := by rcases hm with h | h | h | h <;> omega
      obtain ⟨b1, rfl⟩ : ∃ b1 : Nat, xb = b1 := ⟨xb.toNat, by omega⟩
      have hb1 : b1 < n := by omega
      have i4 : (b1 : Int) < (n : Int) := by omega
      have hz : decide (256 ≤ xo) = true := decide_eq_true (by rcases hm with h | h | h | h <;> first | omega | (have := TM.isA_12 h.1; omega))
      have hz2 : (decide (256 ≤ xo) && (xo != 384)) = true := by rw [hz, bne_iff_ne.2 h3]; rfl
      have hmv : TM.moved (xo, (a1 : Int), (b1 : Int), xk) V = (xo, ((V a1 : Nat) : Int), ((V b1 : Nat) : Int), xk) := by unfold TM.moved; rw [if_neg h2, if_neg h3]; rfl
      rw [hmv]
      have HP1 := hid (fun W => chasA xo (a1 : Int) (b1 : Int) xk true hz W)
      have HP2 := hid (fun W => chasB xo ((V a1 : Nat) : Int) (b1 : Int) xk true hz2 W)
      clear hm h2 h3 hmv hz hz2
      go_enter Try.func23, Try.ntmps23
      go_wp2_with (first
        | (go_at_call 36; refine (HP1.out _).mono ?_; clear HP1; rintro e w1 ⟨rfl, hb⟩; have HS1 := hid (HS.out.below hb); clear hb HS; obtain ⟨q0, q1, q2, q3, qf⟩ := HS1.out.n1.cells; obtain ⟨r0, r1, r2, r3, rf⟩ := HS1.out.n2.cells; have cA := HS1.out.rw.cell a1 ha1; have HS2 := hid (HS1.out.set1 ((V a1 : Nat) : Int)); obtain ⟨s0, s1, s2, s3, sf⟩ := HS2.out.n1.cells; obtain ⟨u0, u1, u2, u3, uf⟩ := HS2.out.n2.cells)
        | (go_at_call 37; refine (HP2.out _).mono ?_; clear HP2; rintro e w2 ⟨rfl, hb⟩; have HS3 := hid (HS2.out.below hb); clear hb HS1 HS2 q0 q1 q2 q3 qf r0 r1 r2 r3 rf s0 s1 s2 s3 sf u0 u1 u2 u3 uf cA; obtain ⟨q0, q1, q2, q3, qf⟩ := HS3.out.n1.cells; obtain ⟨r0, r1, r2, r3, rf⟩ := HS3.out.n2.cells; have cA := HS3.out.rw.cell b1 hb1; have HS4 := hid (HS3.out.set2 ((V b1 : Nat) : Int)); obtain ⟨s0, s1, s2, s3, sf⟩ := HS4.out.n1.cells; obtain ⟨u0, u1, u2, u3, uf⟩ := HS4.out.n2.cells))
      have hZ := HS4.out.n2.put (xo, ((V a1 : Nat) : Int), ((V b1 : Nat) : Int), xk)
      have hZ2 := nput_below (x := (xo, ((V a1 : Nat) : Int), ((V b1 : Nat) : Int), xk)) HS4.out.bl (Nat.le_succ _)
      unfold nput at hZ hZ2
      simp only at hZ hZ2
      clear HS4 q0 q1 q2 q3 r0 r1 r2 r3 rf
      refine bodyPost_ret (results_node (p := 4) (x := (xo, ((V a1 : Nat) : Int), ((V b1 : Nat) : Int), xk)) rfl _ _ rfl hZ) rfl ?_
      exact ⟨rfl, hZ2⟩
end Go.Proofs.Ytapbeffjnpgglab.TB
namespace Go.Proofs.Ytapbeffjnpgglab.TB
open Go.ChangeShapes Go.WideShapes Go.ChangeAt Go.RowKit Go.Maps
open Go.Sort hiding Below
set_option linter.unusedVariables false
set_option maxRecDepth 100000

/-- a wide pool that holds L, at block b -/
structure Wb (W : World) (b : Nat) (a : Option Addr) (c : Nat) (mo : Option Nat) (L : List TM.N) : Prop where
  at_ : W.heap[b]? = some (.cells #[.slice a L.length c, .map mo] 60 (0, 0))
  own : OwnN W 0 a L.length c L
  map : Mp W mo L
  len : L.length ≤ 65536
  ok : ∀ x ∈ L, TM.okN x
  n1 : blk a ≠ some b
  n2 : mo ≠ some b
  n3 : ∀ m, mo = some m → blk a ≠ some m
def Pw : PoolIs := fun W F v L => ∃ b a c mo, v = .pointer (some ⟨b, 0, none⟩) ∧ F = Fb b a mo ∧ Wb W b a c mo L
theorem Wb.keep {W W' : World} {b : Nat} {a : Option Addr} {c : Nat} {mo : Option Nat} {L : List TM.N} (h : Wb W b a c mo L) (hk : ∀ k, Fb b a mo k → W'.heap[k]? = W.heap[k]?) : Wb W' b a c mo L :=
  ⟨by rw [hk b (.inl rfl)]; exact h.at_, h.own.keep (fun k e => hk k (.inr (.inl e))), h.map.keep (fun k e => hk k (.inr (.inr e))), h.len, h.ok, h.n1, h.n2, h.n3⟩
theorem Wb.lt {W : World} {b : Nat} {a : Option Addr} {c : Nat} {mo : Option Nat} {L : List TM.N} (h : Wb W b a c mo L) (k : Nat) (hk : Fb b a mo k) : k < W.heap.size := by
  rcases hk with rfl | hk | hk
  · exact (Array.getElem?_eq_some_iff.1 h.at_).1
  · obtain ⟨A, e1, e2⟩ := blk_at hk
    rw [← e2]; exact (h.own.at A e1).2
  · rcases h.map with ⟨e, _⟩ | ⟨mb, e, D, hm, _⟩
    · rw [e] at hk; cases hk
    · rw [e] at hk; injection hk with hk; rw [← hk]; exact hm.lt
theorem Wb.below {W W' : World} {b : Nat} {a : Option Addr} {c : Nat} {mo : Option Nat} {L : List TM.N} (h : Wb W b a c mo L) (hb : Below W.heap.size W W') : Wb W' b a c mo L := h.keep (fun k hk => hb.block k (h.lt k hk))
theorem Wb.cells {W : World} {b : Nat} {a : Option Addr} {c : Nat} {mo : Option Nat} {L : List TM.N} (h : Wb W b a c mo L) : W.cell? ⟨b, 0, none⟩ = some (.slice a L.length c) ∧ W.cell? ⟨b, 1, none⟩ = some (.map mo) ∧ ∀ j, W.frozen? ⟨b, j, none⟩ = false := by
  have := h.at_
  exact ⟨by simp [World.cell?, this], by simp [World.cell?, this], fun j => by simp [World.frozen?, this]⟩
theorem pw_keep (W W' : World) (F : Nat → Prop) (v : Value) (L : List TM.N) (h : Pw W F v L) (hs : W.heap.size ≤ W'.heap.size) (hk : ∀ b, F b → W'.heap[b]? = W.heap[b]?) : Pw W' F v L := by
  obtain ⟨b, a, c, mo, rfl, rfl, h⟩ := h
  exact ⟨b, a, c, mo, rfl, rfl, h.keep hk⟩
theorem pw_lt (W : World) (F : Nat → Prop) (v : Value) (L : List TM.N) (h : Pw W F v L) (b : Nat) (hb : F b) : b < W.heap.size := by
  obtain ⟨b', a, c, mo, rfl, rfl, h⟩ := h
  exact h.lt b hb

/-- a map made for an empty pool -/
theorem Wb.made {W : World} {b : Nat} {a : Option Addr} {c : Nat} {L : List TM.N} (h : Wb W b a c none L) :
    Wb ((W.alloc (.map #[] 0)).setCell ⟨b, 1, none⟩ (.map (some W.heap.size))) b a c (some W.heap.size) L := by
  have hL : L = [] := by
    rcases h.map with ⟨_, e⟩ | ⟨_, e, _⟩
    · exact e
    · cases e
  have hb := h.lt b (.inl rfl)
  have h2 := h.below (al W (.map #[] 0))
  refine ⟨set_cells _ h2.at_, h2.own.keep (fun k e => Below.heap_setCell _ _ _ _ (fun e2 => h.n1 (by rw [e, e2]))), ?_, h.len, h.ok, h.n1, ?_, ?_⟩
  · refine .inr ⟨_, rfl, .map [], ?_, fun x _ => ⟨fun i hi => ?_, fun _ => rfl⟩⟩
    · have := World.ownsMap_made (H := Unit) W Try.prog 40 (plainElem Try.prog 3)
      rw [hL]
      exact this.setCell (by show W.heap.size ≠ b; omega) _
    · have := (TM.fnd_some.1 hi).1; rw [hL] at this; simp at this
  · intro e; injection e with e; omega
  · intro m hm e
    injection hm with hm
    have := h.lt m (.inr (.inl e))
    omega
/-- a node more, in map and row -/
theorem Wb.more {W W3 W4 : World} {b : Nat} {a : Option Addr} {c mb : Nat} {L : List TM.N} {x : TM.N} (h : Wb W b a c (some mb) L) (ok : TM.okN x) (hf : TM.fnd L x = none) (hlen : L.length < 65536)
    (hG : W.grownBy W3 (some mb)) (hD : Mp W3 (some mb) (L ++ [x])) {o : Obj} {g cap' : Nat} (hO : OwnN W4 0 (some ⟨g, 0, none⟩) (L.length + 1) cap' (L ++ [x])) (hg : (W3.alloc o).grownBy W4 (blk a)) (hgo : blk a = some g ∨ g = (W3.alloc o).heap.size) :
    Wb (W4.setCell ⟨b, 0, none⟩ (.slice (some ⟨g, 0, none⟩) (L.length + 1) cap')) b (some ⟨g, 0, none⟩) cap' (some mb) (L ++ [x]) := by
  have hb := h.lt b (.inl rfl)
  have hmb := h.lt mb (.inr (.inr rfl))
  have hs3 : W.heap.size ≤ W3.heap.size := hG.size
  have hs : (W3.alloc o).heap.size = W3.heap.size + 1 := by simp
  have hgb : g ≠ b := by
    rcases hgo with e | e
    · intro e2; exact h.n1 (by rw [e, e2])
    · omega
  have hgm : g ≠ mb := by
    rcases hgo with e | e
    · intro e2; exact h.n3 mb rfl (by rw [e, e2])
    · omega
  have hbm : mb ≠ b := fun e => h.n2 (by rw [e])
  have e3 : W3.heap[b]? = W.heap[b]? := hG.block b hb (fun e => hbm (by injection e with e; exact e.symm))
  have e4 : W4.heap[b]? = (W3.alloc o).heap[b]? := hg.block b (by omega) (fun e => h.n1 e.symm)
  have e5 : (W3.alloc o).heap[b]? = W3.heap[b]? := Below.heap_alloc _ _ _ (by omega)
  have em : W4.heap[mb]? = W3.heap[mb]? := (hg.block mb (by omega) (fun e => h.n3 mb rfl e.symm)).trans (Below.heap_alloc _ _ _ (by omega))
  have hat := set_cells (j := 0) (Value.slice (some ⟨g, 0, none⟩) (L.length + 1) cap') (e4.trans (e5.trans (e3.trans h.at_)))
  refine ⟨by rw [List.length_append]; exact hat, ?_, ?_, by rw [List.length_append]; simp; omega, fun y hy => ?_, ?_, h.n2, ?_⟩
  · rw [List.length_append]
    exact hO.keep (fun k e => Below.heap_setCell _ _ _ _ (fun e2 => hgb (by injection e with e; exact e.trans e2)))
  · exact hD.keep (fun m hm2 => by
      injection hm2 with hm2
      subst hm2
      rw [Below.heap_setCell _ _ _ _ (show mb ≠ b from hbm)]; exact em)
  · rcases List.mem_append.1 hy with hy | hy
    · exact h.ok y hy
    · rw [List.mem_singleton] at hy; rw [hy]; exact ok
  · intro e; injection e with e; exact hgb e
  · intro m hm2 e
    injection hm2 with hm2
    injection e with e
    exact hgm (by rw [hm2]; exact e)
theorem pw_below {W W' : World} {F : Nat → Prop} {v : Value} {L : List TM.N} (h : Pw W F v L) (hb : Below W.heap.size W W') : Pw W' F v L :=
  pw_keep W W' F v L h hb.size (fun b hf => hb.block b (pw_lt W F v L h b hf))
theorem pw_len {W : World} {F : Nat → Prop} {v : Value} {L : List TM.N} (h : Pw W F v L) : L.length ≤ 65536 := by
  obtain ⟨b, a, c, mo, _, _, h⟩ := h
  exact h.len
theorem pl_len {W : World} {F : Nat → Prop} {v : Value} {L : List TM.N} (h : Pl W F v L) : L.length ≤ 65536 := by
  obtain ⟨b, a, c, mo, _, _, h⟩ := h
  exact h.len
theorem pl_below {W W' : World} {F : Nat → Prop} {v : Value} {L : List TM.N} (h : Pl W F v L) (hb : Below W.heap.size W W') : Pl W' F v L :=
  pl_keep W W' F v L h hb.size (fun b hf => hb.block b (pl_lt W F v L h b hf))
end Go.Proofs.Ytapbeffjnpgglab.TB
namespace Go.Proofs.Ytapbeffjnpgglab.TB
open Go.ChangeShapes Go.WideShapes Go.ChangeAt Go.RowKit Go.Maps
open Go.Sort hiding Below
set_option linter.unusedVariables false
set_option maxRecDepth 100000

set_option maxHeartbeats 1600000 in
theorem pw_has (W : World) (F : Nat → Prop) (v : Value) (L : List TM.N) (i : Nat) (h : Pw W F v L) (hi : i < L.length) (o a b k : Int) (hx : L[i] = (o, a, b, k)) :
    Calls Try.prog 65 #[v, .int .i64 i] W fun e w' => e = .returned (.tuple #[.agg #[.int .i64 o, .int .i64 a, .int .i64 b, .int .u32 k], .bool true]) ∧ Below W.heap.size W w' := by
  obtain ⟨pb, pa, pc, mo, rfl, rfl, hP⟩ := h
  have HB := hid (al W (.cells #[.int .i64 0, .int .i64 0, .int .i64 0, .int .u32 0] 40))
  have hP2 := hP.below HB.out
  obtain ⟨c0, c1, cf⟩ := hP2.cells
  obtain ⟨g, gl, rfl, hly⟩ := hP2.own.lies.ly (by omega)
  obtain ⟨r0, r1, r2, r3⟩ := hly.2 i hi
  rw [hx] at r0 r1 r2 r3
  have hlen := hP.len
  obtain ⟨n, hn⟩ : ∃ n, L.length = n := ⟨_, rfl⟩
  rw [hn] at c0
  have HN := hid (NAt.new W 0 0 0 0)
  obtain ⟨q0, q1, q2, q3, qf⟩ := HN.out.cells
  have HZ := hid (And.intro (NAt.new W o a b k) (al W (.cells #[.int .i64 o, .int .i64 a, .int .i64 b, .int .u32 k] 40)))
  have d0 : decide ((i : Int) < 0) = false := decide_eq_false (by omega)
  have d1 : decide ((n : Int) ≤ (i : Int)) = false := decide_eq_false (by omega)
  have i1 : (i : Int) < (n : Int) := by omega
  have i2 : n ≤ 65536 := by omega
  clear hP hP2 hn hx hly hi hlen
  simp only at r0 r1 r2 r3
  go_enter Try.func65, Try.ntmps65
  go_wp2
  obtain ⟨hZ, hZ2⟩ := HZ.out
  clear HZ HN q0 q1 q2 q3 qf c0 c1 cf r0 r1 r2 r3
  refine bodyPost_ret (results_node2 (p := 4) (u := 5) (x := (o, a, b, k)) rfl _ _ rfl hZ) rfl ?_
  exact ⟨rfl, hZ2⟩
set_option maxHeartbeats 3200000 in
theorem wput_old (W : World) (b : Nat) (a : Option Addr) (c : Nat) (mo : Option Nat) (L : List TM.N) (xo xa xb xk : Int) (ok : TM.okN (xo, xa, xb, xk)) (h : Wb W b a c mo L) (i : Nat) (hf : TM.fnd L (xo, xa, xb, xk) = some i) :
    Calls Try.prog 26 #[.pointer (some ⟨b, 0, none⟩), .agg #[.int .i64 xo, .int .i64 xa, .int .i64 xb, .int .u32 xk]] W fun e w' => e = .returned (.tuple #[.int .i64 (i : Int), .int .i64 0]) ∧ Below W.heap.size W w' := by
  have HB0 := hid (al W (.cells #[.int .i64 xo, .int .i64 xa, .int .i64 xb, .int .u32 xk] 40))
  have HN0 := hid (NAt.new W xo xa xb xk)
  have HP0 := hid (h.below HB0.out)
  obtain ⟨w1, hw1⟩ : ∃ w1, W.alloc (.cells #[.int .i64 xo, .int .i64 xa, .int .i64 xb, .int .u32 xk] 40) = w1 := ⟨_, rfl⟩
  rw [hw1] at HB0 HN0 HP0
  have HB1 := hid HB0.out
  have HN1 := hid HN0.out
  have HP1 := hid HP0.out
  clear HB0 HN0 HP0
  obtain ⟨c0, c1, cf⟩ := HP1.out.cells
  obtain ⟨q0, q1, q2, q3, qf⟩ := HN1.out.cells
  have HL := hid (fun W (hM : Mp W mo L) => hM.look ok)
  have HF := hid hf
  clear h hf ok
  go_enter Try.func26, Try.ntmps26
  have hlk : ∀ d, ∃ cc : Int, (Instr.lookup 54 (.map mo) (.agg #[.int .i64 xo, .int .i64 xa, .int .i64 xb, .int .u32 xk]) true).run Try.prog (w1.drewN d) = .ok (.tuple #[.int .i64 cc, .bool (TM.fnd L (xo, xa, xb, xk)).isSome]) (w1.drewN d) ∧ ∀ i, TM.fnd L (xo, xa, xb, xk) = some i → cc = (i : Int) := fun d => HL.out (w1.drewN d) (HP1.out.map.keep (fun _ _ => rfl))
  have hlk2 : ∀ d, (Instr.lookup 54 (.map mo) (.agg #[.int .i64 xo, .int .i64 xa, .int .i64 xb, .int .u32 xk]) true).run Try.prog (w1.drewN d) = .ok (.tuple #[.int .i64 (i : Int), .bool true]) (w1.drewN d) := fun d => by
    obtain ⟨cc, h1, h2⟩ := hlk d
    rw [h1, h2 i HF.out, HF.out]; rfl
  clear hlk HL HF HP1 HN1
  obtain ⟨n, hn⟩ : ∃ n, L.length = n := ⟨_, rfl⟩
  rw [hn] at c0
  clear hn
  go_wp2
  try rw [hw1]
  clear hw1
  go_quiet (fail)
  go_wp2
  go_ret2
  exact ⟨rfl, bdrew HB1.out nq⟩
set_option maxHeartbeats 6400000 in
theorem wput_new (W : World) (b : Nat) (a : Option Addr) (c : Nat) (mo : Option Nat) (L : List TM.N) (xo xa xb xk : Int) (ok : TM.okN (xo, xa, xb, xk)) (h : Wb W b a c mo L) (hlen : L.length < 65536) (hf : TM.fnd L (xo, xa, xb, xk) = none) :
    Calls Try.prog 26 #[.pointer (some ⟨b, 0, none⟩), .agg #[.int .i64 xo, .int .i64 xa, .int .i64 xb, .int .u32 xk]] W fun e w' => ∃ g cap' mb, e = .returned (.tuple #[.int .i64 (L.length : Int), .int .i64 0]) ∧ Wb w' b (some ⟨g, 0, none⟩) cap' (some mb) (L ++ [(xo, xa, xb, xk)]) ∧ Fr W w' (Fb b a mo) ∧ (blk a = some g ∨ W.heap.size ≤ g) ∧ (mo = some mb ∨ W.heap.size ≤ mb) := by
  have HB0 := hid (al W (.cells #[.int .i64 xo, .int .i64 xa, .int .i64 xb, .int .u32 xk] 40))
  have HN0 := hid (NAt.new W xo xa xb xk)
  have HP0 := hid (h.below HB0.out)
  obtain ⟨w1, hw1⟩ : ∃ w1, W.alloc (.cells #[.int .i64 xo, .int .i64 xa, .int .i64 xb, .int .u32 xk] 40) = w1 := ⟨_, rfl⟩
  rw [hw1] at HB0 HN0 HP0
  have HB1 := hid HB0.out
  have HN1 := hid HN0.out
  have HP1 := hid HP0.out
  clear HB0 HN0 HP0
  obtain ⟨c0, c1, cf⟩ := HP1.out.cells
  obtain ⟨q0, q1, q2, q3, qf⟩ := HN1.out.cells
  have HL := hid (fun W (hM : Mp W mo L) => hM.look0 ok hf)
  have HO := hid (And.intro ok (And.intro hf hlen))
  have hn2 : L.length < 65536 := hlen
  have HLT := hid (fun k => h.lt k)
  clear h hf ok hlen
  have hqm := eqNilM
  have hmm := @run_makeMap Try.prog
  go_enter Try.func26, Try.ntmps26
  have hlk : ∀ d, (Instr.lookup 54 (.map mo) (.agg #[.int .i64 xo, .int .i64 xa, .int .i64 xb, .int .u32 xk]) true).run Try.prog (w1.drewN d) = .ok (.tuple #[.int .i64 0, .bool false]) (w1.drewN d) := fun d => HL.out (w1.drewN d) (HP1.out.map.keep (fun _ _ => rfl))
  go_wp2
  try rw [hw1]
  clear hw1
  go_quiet (fail)
  clear hlk HL
  cases mo with
  | some mb =>
    go_wp2
    have HPz := hid (show Wb (w1.drewN nq) b a c (some mb) L from HP1.out.keep (fun _ _ => rfl))
    have HNz := hid (show NAt (w1.drewN nq) W.heap.size (xo, xa, xb, xk) from HN1.out)
    have HFz := hid (show Fr W (w1.drewN nq) (Fb b a (some mb)) from Fr.of_below (bdrew HB1.out nq))
    clear HP1 HN1 HB1 c0 c1 cf q0 q1 q2 q3 qf
    have Hmb := hid (show (Fb b a (some mb)) mb ∨ W.heap.size ≤ mb from .inl (.inr (.inr rfl)))
    generalize w1.drewN nq = Wz at *
    obtain ⟨c0, c1, cf⟩ := HPz.out.cells
    obtain ⟨q0, q1, q2, q3, qf⟩ := HNz.out.cells

    -- from here on: the world Wz, the map at mb
    obtain ⟨W3, hup, hD3, hT3⟩ := Mp.more (W := Wz.drew) (HPz.out.map.keep (fun _ _ => rfl)) HO.out.1 HO.out.2.1 HO.out.2.2
    have hmbN : mb ≠ W.heap.size := by
      intro e
      have h1 := HNz.out
      rcases HPz.out.map with ⟨e1, _⟩ | ⟨mb', e1, D, ⟨es, ck, h2, _⟩, _⟩
      · cases e1
      · injection e1 with e1
        unfold NAt at h1
        rw [← e1, e, h1] at h2
        cases h2
    have hbmb : mb ≠ b := fun e => HPz.out.n2 (by rw [e])
    have hb0 := HPz.out.lt b (.inl rfl)
    have e3 : W3.heap[b]? = Wz.heap[b]? := hT3.grown.block b hb0 (fun e => hbmb (by injection e with e; exact e.symm))
    have eN : W3.heap[W.heap.size]? = Wz.heap[W.heap.size]? := hT3.grown.block _ HNz.out.lt (fun e => hmbN (by injection e with e; exact e.symm))
    have hN3 : NAt W3 W.heap.size (xo, xa, xb, xk) := by unfold NAt; rw [eN]; exact HNz.out
    have hO3 : OwnN W3 0 a L.length c L := HPz.out.own.keep (fun k e => hT3.grown.block k (HPz.out.lt k (.inr (.inl e))) (fun e2 => HPz.out.n3 mb rfl (by rw [e, e2])))
    have hO4 : OwnN (W3.drew.alloc (.cells #[.int .i64 xo, .int .i64 xa, .int .i64 xb, .int .u32 xk] 40)) 0 a L.length c L := OwnN.below (W := W3.drew) (hO3.keep (fun _ _ => rfl)) (al _ _)
    obtain ⟨g, cap', W4, hap, hOw, hgr, hgo⟩ := run_app1 (ty := 22) (c := 1) hO4 (ly_one W3.drew (xo, xa, xb, xk)) (by have := HPz.out.len; omega) (Nat.zero_le _)
    have hGz : Wz.grownBy W3.drew (some mb) := ⟨hT3.grown.os, hT3.grown.tape, hT3.grown.output, hT3.grown.size, hT3.grown.block⟩
    have HZ := hid (HPz.out.more HO.out.1 HO.out.2.1 HO.out.2.2 hGz (hD3.keep (fun _ _ => rfl)) hOw hgr hgo)
    have HG := hid (show Fr W (W4.setCell ⟨b, 0, none⟩ (.slice (some ⟨g, 0, none⟩) (L.length + 1) cap')) (Fb b a (some mb)) ∧ (blk a = some g ∨ W.heap.size ≤ g) from by
      have hWz := HFz.out.size
      have hs3 := hT3.grown.size
      have hal : (W3.drew.alloc (.cells #[.int .i64 xo, .int .i64 xa, .int .i64 xb, .int .u32 xk] 40)).heap.size = W3.heap.size + 1 := by simp
      have hs3' : Wz.heap.size ≤ W3.heap.size := hs3
      refine ⟨(((HFz.out.grown hGz (fun k e => by injection e with e; rw [← e]; exact Hmb.out)).below2 (al _ _)).grown hgr (fun k e => .inl (.inr (.inl e)))).grown (setG _ _ _ _) (fun k e => by injection e with e; exact .inl (.inl e.symm)), ?_⟩
      rcases hgo with e | e
      · exact .inl e
      · right; omega)
    have HMb := hid (show (some mb) = some mb ∨ W.heap.size ≤ mb from by
      rcases Hmb.out with (e | e | e) | e
      · exact absurd e hbmb
      · exact absurd e (HPz.out.n3 mb rfl)
      · exact .inl e
      · exact .inr e)
    have hup2 : (Instr.mapUpdate 54 (.map (some mb)) (.agg #[.int .i64 xo, .int .i64 xa, .int .i64 xb, .int .u32 xk]) (.int .i64 (L.length : Int))).run Try.prog Wz.drew = .ok () W3 := hup
    have hb4 : W4.heap[b]? = Wz.heap[b]? := (hgr.block b (by have := hT3.grown.size; have h9 : Wz.heap.size ≤ W3.heap.size := this; simp; omega) (fun e => HPz.out.n1 e.symm)).trans ((Below.heap_alloc W3.drew _ b (by have := hT3.grown.size; have h9 : Wz.heap.size ≤ W3.heap.size := this; show b < W3.heap.size; omega)).trans e3)
    have s3c : W3.cell? ⟨b, 0, none⟩ = some (.slice a L.length c) := (World.cell?_of_block e3).trans c0
    have s3a : (W3.alloc (.cells #[.int .i64 xo, .int .i64 xa, .int .i64 xb, .int .u32 xk] 40)).cell? ⟨b, 0, none⟩ = some (.slice a L.length c) := (World.cell?_of_block (Below.heap_alloc W3 _ b (by have := hT3.grown.size; have h9 : Wz.heap.size ≤ W3.heap.size := this; omega))).trans s3c
    have s4c : W4.cell? ⟨b, 0, none⟩ = some (.slice a L.length c) := (World.cell?_of_block hb4).trans c0
    have s4f : W4.frozen? ⟨b, 0, none⟩ = false := (World.frozen?_of_block hb4).trans (cf 0)
    obtain ⟨u0, u1, u2, u3, uf⟩ := hN3.cells
    have hap2 : (Builtin.append_ #[22, 22] 22 #[.slice a L.length c, .slice (some ⟨W3.heap.size, 0, none⟩) 1 1]).run Try.prog (W3.drew.alloc (.cells #[.int .i64 xo, .int .i64 xa, .int .i64 xb, .int .u32 xk] 40)) = .ok (.slice (some ⟨g, 0, none⟩) (L.length + 1) cap') W4 := hap
    clear hap hup hO4 hO3 hOw hgr hgo hGz hD3 hT3 hb4 e3 eN HPz HNz HFz HO hN3 Hmb hb0
    go_region_with (fail)
    all_goals
      clear c0 c1 cf q0 q1 q2 q3 qf hup2
      go_wp2
      refine wp_region_any (by kernel_rfl) ?_
      change wpAny _ _ _ _ _ _ _ (World.drew _)
      refine wpAny_take (i := 0) (v := ?_) rfl (by kernel_rfl) (by kernel_rfl) (by kernel_rfl) (fun _ _ _ h => h) (Or.inl ⟨by rfl, ?_⟩) ?_
      rotate_left
      · (intro w; go_simp; try with_reducible rfl)
      refine wpAny_take (i := 1) (v := ?_) rfl (by kernel_rfl) (by kernel_rfl) (by kernel_rfl) (fun _ _ _ h => h) (Or.inl ⟨by rfl, ?_⟩) ?_
      rotate_left
      · (intro w; go_simp; try with_reducible rfl)
      refine wpAny_take (i := 2) (v := ?_) rfl (by kernel_rfl) (by kernel_rfl) (by kernel_rfl) (fun _ _ _ h => h) (Or.inl ⟨by rfl, ?_⟩) ?_
      rotate_left
      · (intro w; go_simp; try with_reducible rfl)
      refine wpAny_take (i := 3) (v := ?_) rfl (by kernel_rfl) (by kernel_rfl) (by kernel_rfl) (fun _ _ _ h => h) (Or.inl ⟨by rfl, ?_⟩) ?_
      rotate_left
      · (intro w; go_simp; try with_reducible rfl)
      refine wpAny_ready (rs := [4, 5]) (by kernel_rfl) (by simp) ?_
      refine AllReady.cons rfl (fun K hK => ?_) (AllReady.cons rfl (fun K hK => ?_) AllReady.nil)
      · go_simp
        refine hK _ _ ?_
        clear hK K
        refine wpAny_ready (rs := [5]) (by kernel_rfl) (by simp) ?_
        refine AllReady.cons rfl (fun K hK => ?_) AllReady.nil
        go_simp
        refine hK _ _ ?_
        clear hK K
        refine wpAny_ready (rs := [6]) (by kernel_rfl) (by simp) ?_
        refine AllReady.cons rfl (fun K hK => ?_) AllReady.nil
        go_simp
        refine hK _ _ ?_
        clear hK K
        refine wpAny_ready (rs := [7]) (by kernel_rfl) (by simp) ?_
        refine AllReady.cons rfl (fun K hK => ?_) AllReady.nil
        rw [if_pos (by rfl)]
        refine wp_app_run (tmpO 44) (tmpO 46) rfl (vs := .slice a L.length c) (vx := .slice (some ⟨W3.heap.size, 0, none⟩) 1 1) rfl rfl hap2 ?_
        refine hK _ _ ?_
        clear hK K
        refine wpAny_take (i := 8) (v := ?_) rfl (by kernel_rfl) (by kernel_rfl) (by kernel_rfl) (fun _ _ _ h => h) (Or.inl ⟨by rfl, ?_⟩) ?_
        rotate_left
        · (intro w; go_simp; try with_reducible rfl)
        refine wpAny_take (i := 9) (v := ?_) rfl (by kernel_rfl) (by kernel_rfl) (by kernel_rfl) (fun _ _ _ h => h) (Or.inl ⟨by rfl, ?_⟩) ?_
        rotate_left
        · (intro w; go_simp; try with_reducible rfl)
        refine wpAny_ready (rs := [10]) (by kernel_rfl) (by simp) ?_
        refine AllReady.cons rfl (fun K hK => ?_) AllReady.nil
        go_simp
        refine hK _ _ ?_
        clear hK K
        refine wpAny_done (by kernel_rfl) ?_ _
        go_wp2
        go_ret2
        exact ⟨g, cap', mb, rfl, HZ.out, HG.out.1, HG.out.2, by first | exact HMb.out | exact .inl rfl | exact .inr HMb.out⟩
      · go_simp
        refine hK _ _ ?_
        clear hK K
        refine wpAny_ready (rs := [4, 6]) (by kernel_rfl) (by simp) ?_
        refine AllReady.cons rfl (fun K hK => ?_) (AllReady.cons rfl (fun K hK => ?_) AllReady.nil)
        · go_simp
          refine hK _ _ ?_
          clear hK K
          refine wpAny_ready (rs := [6]) (by kernel_rfl) (by simp) ?_
          refine AllReady.cons rfl (fun K hK => ?_) AllReady.nil
          go_simp
          refine hK _ _ ?_
          clear hK K
          refine wpAny_ready (rs := [7]) (by kernel_rfl) (by simp) ?_
          refine AllReady.cons rfl (fun K hK => ?_) AllReady.nil
          rw [if_pos (by rfl)]
          refine wp_app_run (tmpO 44) (tmpO 46) rfl (vs := .slice a L.length c) (vx := .slice (some ⟨W3.heap.size, 0, none⟩) 1 1) rfl rfl hap2 ?_
          refine hK _ _ ?_
          clear hK K
          refine wpAny_take (i := 8) (v := ?_) rfl (by kernel_rfl) (by kernel_rfl) (by kernel_rfl) (fun _ _ _ h => h) (Or.inl ⟨by rfl, ?_⟩) ?_
          rotate_left
          · (intro w; go_simp; try with_reducible rfl)
          refine wpAny_take (i := 9) (v := ?_) rfl (by kernel_rfl) (by kernel_rfl) (by kernel_rfl) (fun _ _ _ h => h) (Or.inl ⟨by rfl, ?_⟩) ?_
          rotate_left
          · (intro w; go_simp; try with_reducible rfl)
          refine wpAny_ready (rs := [10]) (by kernel_rfl) (by simp) ?_
          refine AllReady.cons rfl (fun K hK => ?_) AllReady.nil
          go_simp
          refine hK _ _ ?_
          clear hK K
          refine wpAny_done (by kernel_rfl) ?_ _
          go_wp2
          go_ret2
          exact ⟨g, cap', mb, rfl, HZ.out, HG.out.1, HG.out.2, by first | exact HMb.out | exact .inl rfl | exact .inr HMb.out⟩
        · go_simp
          refine hK _ _ ?_
          clear hK K
          refine wpAny_ready (rs := [4]) (by kernel_rfl) (by simp) ?_
          refine AllReady.cons rfl (fun K hK => ?_) AllReady.nil
          go_simp
          refine hK _ _ ?_
          clear hK K
          refine wpAny_ready (rs := [7]) (by kernel_rfl) (by simp) ?_
          refine AllReady.cons rfl (fun K hK => ?_) AllReady.nil
          rw [if_pos (by rfl)]
          refine wp_app_run (tmpO 44) (tmpO 46) rfl (vs := .slice a L.length c) (vx := .slice (some ⟨W3.heap.size, 0, none⟩) 1 1) rfl rfl hap2 ?_
          refine hK _ _ ?_
          clear hK K
          refine wpAny_take (i := 8) (v := ?_) rfl (by kernel_rfl) (by kernel_rfl) (by kernel_rfl) (fun _ _ _ h => h) (Or.inl ⟨by rfl, ?_⟩) ?_
          rotate_left
          · (intro w; go_simp; try with_reducible rfl)
          refine wpAny_take (i := 9) (v := ?_) rfl (by kernel_rfl) (by kernel_rfl) (by kernel_rfl) (fun _ _ _ h => h) (Or.inl ⟨by rfl, ?_⟩) ?_
          rotate_left
          · (intro w; go_simp; try with_reducible rfl)
          refine wpAny_ready (rs := [10]) (by kernel_rfl) (by simp) ?_
          refine AllReady.cons rfl (fun K hK => ?_) AllReady.nil
          go_simp
          refine hK _ _ ?_
          clear hK K
          refine wpAny_done (by kernel_rfl) ?_ _
          go_wp2
          go_ret2
          exact ⟨g, cap', mb, rfl, HZ.out, HG.out.1, HG.out.2, by first | exact HMb.out | exact .inl rfl | exact .inr HMb.out⟩


  | none =>
    have hm1 : (w1.drewN nq).heap.size = w1.heap.size := rfl
    have hbl := HP1.out.lt b (.inl rfl)
    have eB : ((w1.drewN nq).alloc (.map #[] 0)).heap[b]? = w1.heap[b]? := Below.heap_alloc (w1.drewN nq) _ b hbl
    have m1 : ((w1.drewN nq).alloc (.map #[] 0)).cell? ⟨b, 1, none⟩ = some (.map none) := (World.cell?_of_block eB).trans c1
    have m0 : ((w1.drewN nq).alloc (.map #[] 0)).cell? ⟨b, 0, none⟩ = some (.slice a L.length c) := (World.cell?_of_block eB).trans c0
    have m2 : ((w1.drewN nq).alloc (.map #[] 0)).frozen? ⟨b, 1, none⟩ = false := (World.frozen?_of_block eB).trans (cf 1)
    go_wp2
    have HPz := hid ((show Wb (w1.drewN nq) b a c none L from HP1.out.keep (fun _ _ => rfl)).made)
    have HNz := hid (show NAt (((w1.drewN nq).alloc (.map #[] 0)).setCell ⟨b, 1, none⟩ (.map (some (w1.drewN nq).heap.size))) W.heap.size (xo, xa, xb, xk) from (NAt.alloc (W := w1.drewN nq) HN1.out _).off (fun e => by have := HLT.out b (.inl rfl); omega))
    have HFz := hid (show Fr W (((w1.drewN nq).alloc (.map #[] 0)).setCell ⟨b, 1, none⟩ (.map (some (w1.drewN nq).heap.size))) (Fb b a none) from ((Fr.of_below (bdrew HB1.out nq)).below2 (al _ _)).grown (setG _ _ _ _) (fun k e => by injection e with e; exact .inl (.inl e.symm)))
    have Hmb := hid (show (Fb b a none) (w1.drewN nq).heap.size ∨ W.heap.size ≤ (w1.drewN nq).heap.size from .inr (bdrew HB1.out nq).size)
    rw [hm1] at HPz HNz HFz Hmb
    clear HP1 HN1 HB1 c0 c1 cf q0 q1 q2 q3 qf eB m0 m1 m2 hm1 hbl
    generalize ((w1.drewN nq).alloc (.map #[] 0)).setCell ⟨b, 1, none⟩ (.map (some w1.heap.size)) = Wz at *
    obtain ⟨mb, hmb⟩ : ∃ mb, w1.heap.size = mb := ⟨_, rfl⟩
    rw [hmb] at HPz Hmb ⊢
    clear hmb
    obtain ⟨c0, c1, cf⟩ := HPz.out.cells
    obtain ⟨q0, q1, q2, q3, qf⟩ := HNz.out.cells

    -- from here on: the world Wz, the map at mb
    obtain ⟨W3, hup, hD3, hT3⟩ := Mp.more (W := Wz.drew) (HPz.out.map.keep (fun _ _ => rfl)) HO.out.1 HO.out.2.1 HO.out.2.2
    have hmbN : mb ≠ W.heap.size := by
      intro e
      have h1 := HNz.out
      rcases HPz.out.map with ⟨e1, _⟩ | ⟨mb', e1, D, ⟨es, ck, h2, _⟩, _⟩
      · cases e1
      · injection e1 with e1
        unfold NAt at h1
        rw [← e1, e, h1] at h2
        cases h2
    have hbmb : mb ≠ b := fun e => HPz.out.n2 (by rw [e])
    have hb0 := HPz.out.lt b (.inl rfl)
    have e3 : W3.heap[b]? = Wz.heap[b]? := hT3.grown.block b hb0 (fun e => hbmb (by injection e with e; exact e.symm))
    have eN : W3.heap[W.heap.size]? = Wz.heap[W.heap.size]? := hT3.grown.block _ HNz.out.lt (fun e => hmbN (by injection e with e; exact e.symm))
    have hN3 : NAt W3 W.heap.size (xo, xa, xb, xk) := by unfold NAt; rw [eN]; exact HNz.out
    have hO3 : OwnN W3 0 a L.length c L := HPz.out.own.keep (fun k e => hT3.grown.block k (HPz.out.lt k (.inr (.inl e))) (fun e2 => HPz.out.n3 mb rfl (by rw [e, e2])))
    have hO4 : OwnN (W3.drew.alloc (.cells #[.int .i64 xo, .int .i64 xa, .int .i64 xb, .int .u32 xk] 40)) 0 a L.length c L := OwnN.below (W := W3.drew) (hO3.keep (fun _ _ => rfl)) (al _ _)
    obtain ⟨g, cap', W4, hap, hOw, hgr, hgo⟩ := run_app1 (ty := 22) (c := 1) hO4 (ly_one W3.drew (xo, xa, xb, xk)) (by have := HPz.out.len; omega) (Nat.zero_le _)
    have hGz : Wz.grownBy W3.drew (some mb) := ⟨hT3.grown.os, hT3.grown.tape, hT3.grown.output, hT3.grown.size, hT3.grown.block⟩
    have HZ := hid (HPz.out.more HO.out.1 HO.out.2.1 HO.out.2.2 hGz (hD3.keep (fun _ _ => rfl)) hOw hgr hgo)
    have HG := hid (show Fr W (W4.setCell ⟨b, 0, none⟩ (.slice (some ⟨g, 0, none⟩) (L.length + 1) cap')) (Fb b a none) ∧ (blk a = some g ∨ W.heap.size ≤ g) from by
      have hWz := HFz.out.size
      have hs3 := hT3.grown.size
      have hal : (W3.drew.alloc (.cells #[.int .i64 xo, .int .i64 xa, .int .i64 xb, .int .u32 xk] 40)).heap.size = W3.heap.size + 1 := by simp
      have hs3' : Wz.heap.size ≤ W3.heap.size := hs3
      refine ⟨(((HFz.out.grown hGz (fun k e => by injection e with e; rw [← e]; exact Hmb.out)).below2 (al _ _)).grown hgr (fun k e => .inl (.inr (.inl e)))).grown (setG _ _ _ _) (fun k e => by injection e with e; exact .inl (.inl e.symm)), ?_⟩
      rcases hgo with e | e
      · exact .inl e
      · right; omega)
    have HMb := hid (show none = some mb ∨ W.heap.size ≤ mb from by
      rcases Hmb.out with (e | e | e) | e
      · exact absurd e hbmb
      · exact absurd e (HPz.out.n3 mb rfl)
      · exact .inl e
      · exact .inr e)
    have hup2 : (Instr.mapUpdate 54 (.map (some mb)) (.agg #[.int .i64 xo, .int .i64 xa, .int .i64 xb, .int .u32 xk]) (.int .i64 (L.length : Int))).run Try.prog Wz.drew = .ok () W3 := hup
    have hb4 : W4.heap[b]? = Wz.heap[b]? := (hgr.block b (by have := hT3.grown.size; have h9 : Wz.heap.size ≤ W3.heap.size := this; simp; omega) (fun e => HPz.out.n1 e.symm)).trans ((Below.heap_alloc W3.drew _ b (by have := hT3.grown.size; have h9 : Wz.heap.size ≤ W3.heap.size := this; show b < W3.heap.size; omega)).trans e3)
    have s3c : W3.cell? ⟨b, 0, none⟩ = some (.slice a L.length c) := (World.cell?_of_block e3).trans c0
    have s3a : (W3.alloc (.cells #[.int .i64 xo, .int .i64 xa, .int .i64 xb, .int .u32 xk] 40)).cell? ⟨b, 0, none⟩ = some (.slice a L.length c) := (World.cell?_of_block (Below.heap_alloc W3 _ b (by have := hT3.grown.size; have h9 : Wz.heap.size ≤ W3.heap.size := this; omega))).trans s3c
    have s4c : W4.cell? ⟨b, 0, none⟩ = some (.slice a L.length c) := (World.cell?_of_block hb4).trans c0
    have s4f : W4.frozen? ⟨b, 0, none⟩ = false := (World.frozen?_of_block hb4).trans (cf 0)
    obtain ⟨u0, u1, u2, u3, uf⟩ := hN3.cells
    have hap2 : (Builtin.append_ #[22, 22] 22 #[.slice a L.length c, .slice (some ⟨W3.heap.size, 0, none⟩) 1 1]).run Try.prog (W3.drew.alloc (.cells #[.int .i64 xo, .int .i64 xa, .int .i64 xb, .int .u32 xk] 40)) = .ok (.slice (some ⟨g, 0, none⟩) (L.length + 1) cap') W4 := hap
    clear hap hup hO4 hO3 hOw hgr hgo hGz hD3 hT3 hb4 e3 eN HPz HNz HFz HO hN3 Hmb hb0
    go_region_with (fail)
    all_goals
      clear c0 c1 cf q0 q1 q2 q3 qf hup2
      go_wp2
      refine wp_region_any (by kernel_rfl) ?_
      change wpAny _ _ _ _ _ _ _ (World.drew _)
      refine wpAny_take (i := 0) (v := ?_) rfl (by kernel_rfl) (by kernel_rfl) (by kernel_rfl) (fun _ _ _ h => h) (Or.inl ⟨by rfl, ?_⟩) ?_
      rotate_left
      · (intro w; go_simp; try with_reducible rfl)
      refine wpAny_take (i := 1) (v := ?_) rfl (by kernel_rfl) (by kernel_rfl) (by kernel_rfl) (fun _ _ _ h => h) (Or.inl ⟨by rfl, ?_⟩) ?_
      rotate_left
      · (intro w; go_simp; try with_reducible rfl)
      refine wpAny_take (i := 2) (v := ?_) rfl (by kernel_rfl) (by kernel_rfl) (by kernel_rfl) (fun _ _ _ h => h) (Or.inl ⟨by rfl, ?_⟩) ?_
      rotate_left
      · (intro w; go_simp; try with_reducible rfl)
      refine wpAny_take (i := 3) (v := ?_) rfl (by kernel_rfl) (by kernel_rfl) (by kernel_rfl) (fun _ _ _ h => h) (Or.inl ⟨by rfl, ?_⟩) ?_
      rotate_left
      · (intro w; go_simp; try with_reducible rfl)
      refine wpAny_ready (rs := [4, 5]) (by kernel_rfl) (by simp) ?_
      refine AllReady.cons rfl (fun K hK => ?_) (AllReady.cons rfl (fun K hK => ?_) AllReady.nil)
      · go_simp
        refine hK _ _ ?_
        clear hK K
        refine wpAny_ready (rs := [5]) (by kernel_rfl) (by simp) ?_
        refine AllReady.cons rfl (fun K hK => ?_) AllReady.nil
        go_simp
        refine hK _ _ ?_
        clear hK K
        refine wpAny_ready (rs := [6]) (by kernel_rfl) (by simp) ?_
        refine AllReady.cons rfl (fun K hK => ?_) AllReady.nil
        go_simp
        refine hK _ _ ?_
        clear hK K
        refine wpAny_ready (rs := [7]) (by kernel_rfl) (by simp) ?_
        refine AllReady.cons rfl (fun K hK => ?_) AllReady.nil
        rw [if_pos (by rfl)]
        refine wp_app_run (tmpO 44) (tmpO 46) rfl (vs := .slice a L.length c) (vx := .slice (some ⟨W3.heap.size, 0, none⟩) 1 1) rfl rfl hap2 ?_
        refine hK _ _ ?_
        clear hK K
        refine wpAny_take (i := 8) (v := ?_) rfl (by kernel_rfl) (by kernel_rfl) (by kernel_rfl) (fun _ _ _ h => h) (Or.inl ⟨by rfl, ?_⟩) ?_
        rotate_left
        · (intro w; go_simp; try with_reducible rfl)
        refine wpAny_take (i := 9) (v := ?_) rfl (by kernel_rfl) (by kernel_rfl) (by kernel_rfl) (fun _ _ _ h => h) (Or.inl ⟨by rfl, ?_⟩) ?_
        rotate_left
        · (intro w; go_simp; try with_reducible rfl)
        refine wpAny_ready (rs := [10]) (by kernel_rfl) (by simp) ?_
        refine AllReady.cons rfl (fun K hK => ?_) AllReady.nil
        go_simp
        refine hK _ _ ?_
        clear hK K
        refine wpAny_done (by kernel_rfl) ?_ _
        go_wp2
        go_ret2
        exact ⟨g, cap', mb, rfl, HZ.out, HG.out.1, HG.out.2, by first | exact HMb.out | exact .inl rfl | exact .inr HMb.out⟩
      · go_simp
        refine hK _ _ ?_
        clear hK K
        refine wpAny_ready (rs := [4, 6]) (by kernel_rfl) (by simp) ?_
        refine AllReady.cons rfl (fun K hK => ?_) (AllReady.cons rfl (fun K hK => ?_) AllReady.nil)
        · go_simp
          refine hK _ _ ?_
          clear hK K
          refine wpAny_ready (rs := [6]) (by kernel_rfl) (by simp) ?_
          refine AllReady.cons rfl (fun K hK => ?_) AllReady.nil
          go_simp
          refine hK _ _ ?_
          clear hK K
          refine wpAny_ready (rs := [7]) (by kernel_rfl) (by simp) ?_
          refine AllReady.cons rfl (fun K hK => ?_) AllReady.nil
          rw [if_pos (by rfl)]
          refine wp_app_run (tmpO 44) (tmpO 46) rfl (vs := .slice a L.length c) (vx := .slice (some ⟨W3.heap.size, 0, none⟩) 1 1) rfl rfl hap2 ?_
          refine hK _ _ ?_
          clear hK K
          refine wpAny_take (i := 8) (v := ?_) rfl (by kernel_rfl) (by kernel_rfl) (by kernel_rfl) (fun _ _ _ h => h) (Or.inl ⟨by rfl, ?_⟩) ?_
          rotate_left
          · (intro w; go_simp; try with_reducible rfl)
          refine wpAny_take (i := 9) (v := ?_) rfl (by kernel_rfl) (by kernel_rfl) (by kernel_rfl) (fun _ _ _ h => h) (Or.inl ⟨by rfl, ?_⟩) ?_
          rotate_left
          · (intro w; go_simp; try with_reducible rfl)
          refine wpAny_ready (rs := [10]) (by kernel_rfl) (by simp) ?_
          refine AllReady.cons rfl (fun K hK => ?_) AllReady.nil
          go_simp
          refine hK _ _ ?_
          clear hK K
          refine wpAny_done (by kernel_rfl) ?_ _
          go_wp2
          go_ret2
          exact ⟨g, cap', mb, rfl, HZ.out, HG.out.1, HG.out.2, by first | exact HMb.out | exact .inl rfl | exact .inr HMb.out⟩
        · go_simp
          refine hK _ _ ?_
          clear hK K
          refine wpAny_ready (rs := [4]) (by kernel_rfl) (by simp) ?_
          refine AllReady.cons rfl (fun K hK => ?_) AllReady.nil
          go_simp
          refine hK _ _ ?_
          clear hK K
          refine wpAny_ready (rs := [7]) (by kernel_rfl) (by simp) ?_
          refine AllReady.cons rfl (fun K hK => ?_) AllReady.nil
          rw [if_pos (by rfl)]
          refine wp_app_run (tmpO 44) (tmpO 46) rfl (vs := .slice a L.length c) (vx := .slice (some ⟨W3.heap.size, 0, none⟩) 1 1) rfl rfl hap2 ?_
          refine hK _ _ ?_
          clear hK K
          refine wpAny_take (i := 8) (v := ?_) rfl (by kernel_rfl) (by kernel_rfl) (by kernel_rfl) (fun _ _ _ h => h) (Or.inl ⟨by rfl, ?_⟩) ?_
          rotate_left
          · (intro w; go_simp; try with_reducible rfl)
          refine wpAny_take (i := 9) (v := ?_) rfl (by kernel_rfl) (by kernel_rfl) (by kernel_rfl) (fun _ _ _ h => h) (Or.inl ⟨by rfl, ?_⟩) ?_
          rotate_left
          · (intro w; go_simp; try with_reducible rfl)
          refine wpAny_ready (rs := [10]) (by kernel_rfl) (by simp) ?_
          refine AllReady.cons rfl (fun K hK => ?_) AllReady.nil
          go_simp
          refine hK _ _ ?_
          clear hK K
          refine wpAny_done (by kernel_rfl) ?_ _
          go_wp2
          go_ret2
          exact ⟨g, cap', mb, rfl, HZ.out, HG.out.1, HG.out.2, by first | exact HMb.out | exact .inl rfl | exact .inr HMb.out⟩


theorem pw_put (W : World) (F : Nat → Prop) (v : Value) (L : List TM.N) (o a b k : Int) (ok : TM.okN (o, a, b, k)) (h : Pw W F v L) (hlen : L.length < 65536) (L' : List TM.N) (p : Nat) (hp : TM.putN L (o, a, b, k) = (L', p)) :
    Calls Try.prog 26 #[v, .agg #[.int .i64 o, .int .i64 a, .int .i64 b, .int .u32 k]] W fun e w' => ∃ F', e = .returned (.tuple #[.int .i64 (p : Int), .int .i64 0]) ∧ Pw w' F' v L' ∧ Fr W w' F ∧ (∀ b, F' b → F b ∨ W.heap.size ≤ b) := by
  obtain ⟨pb, pa, pc, mo, rfl, rfl, hP⟩ := h
  cases hf : TM.fnd L (o, a, b, k) with
  | some i =>
    rw [TM.putN_old hf] at hp
    injection hp with h1 h2
    subst h1 h2
    refine (wput_old W pb pa pc mo L o a b k ok hP i hf).mono ?_
    rintro e w' ⟨rfl, hb⟩
    exact ⟨_, rfl, ⟨pb, pa, pc, mo, rfl, rfl, hP.below hb⟩, Fr.of_below hb, fun b hb => .inl hb⟩
  | none =>
    rw [TM.putN_new hf] at hp
    injection hp with h1 h2
    subst h1 h2
    refine (wput_new W pb pa pc mo L o a b k ok hP hlen hf).mono ?_
    rintro e w' ⟨g, cap', mb, rfl, hP', hF, hg, hmb⟩
    refine ⟨_, rfl, ⟨pb, some ⟨g, 0, none⟩, cap', some mb, rfl, rfl, hP'⟩, hF, ?_⟩
    rintro b (rfl | e | e)
    · exact .inl (.inl rfl)
    · have e2 : g = b := by injection e
      subst e2
      rcases hg with h | h
      · exact .inl (.inr (.inl h))
      · exact .inr h
    · injection e with e
      subst e
      rcases hmb with h | h
      · exact .inl (.inr (.inr h))
      · exact .inr h
end Go.Proofs.Ytapbeffjnpgglab.TB
namespace Go.Proofs.Ytapbeffjnpgglab.TM
set_option linter.unusedVariables false
/-- rules 1 and 3: a number on the right -/
def ofN (op : Int) (t : Tr) (k : Int) : Tr := match nmT t with
  | some i => .num (told op i k)
  | none => rgtT op t k
theorem ofN_num {op : Int} {t : Tr} {i : Int} (h : nmT t = some i) (k : Int) : ofN op t k = .num (told op i k) := by unfold ofN; rw [h]
theorem ofN_none {op : Int} {t : Tr} (h : nmT t = none) (k : Int) : ofN op t k = rgtT op t k := by unfold ofN; rw [h]
theorem ofN_sh (op : Int) (t : Tr) (k : Int) : ofN op t (shK op k) = ofN op t k := by
  cases h : nmT t with
  | some i => rw [ofN_num h, ofN_num h, told_shK]
  | none => rw [ofN_none h, ofN_none h, rgtT_eq, rgtT_eq, shK_twice]
theorem ofN_idle {op : Int} {t : Tr} {k : Int} (h : nmT t = none) (hk : shK op k = k) (h1 : idleB op k = true) : ofN op t k = t := by
  rw [ofN_none h, rgtT_eq, hk, if_pos h1]
theorem ofN_zero {op : Int} {t : Tr} {k : Int} (h : nmT t = none) (hk : shK op k = k) (h1 : idleB op k = false) (h2 : (zeroB op k || fullB op k) = true) : ofN op t k = .num k := by
  rw [ofN_none h, rgtT_eq, hk, if_neg (by rw [h1]; decide)]
  cases h3 : zeroB op k with
  | true =>
    rw [if_pos rfl]
    unfold zeroB at h3
    simp only [Bool.and_eq_true, beq_iff_eq] at h3
    rw [h3.1]
  | false =>
    rw [h3, Bool.false_or] at h2
    rw [if_neg (by decide), if_pos h2]
    unfold fullB at h2
    simp only [Bool.and_eq_true, beq_iff_eq] at h2
    rw [h2.1]
theorem zf_no {op k : Int} (h2 : (zeroB op k || fullB op k) = false) : ¬ zeroB op k = true ∧ ¬ fullB op k = true := by
  rw [Bool.or_eq_false_iff] at h2
  rw [h2.1, h2.2]; decide
theorem ofN_op {op : Int} {t : Tr} {k : Int} (h : nmT t = none) (hk : shK op k = k) (h1 : idleB op k = false) (h2 : (zeroB op k || fullB op k) = false) (h3 : chn op t = none) : ofN op t k = op2 op t (.num k) := by
  rw [ofN_none h, rgtT_eq, hk, if_neg (by rw [h1]; decide), if_neg (zf_no h2).1, if_neg (zf_no h2).2, h3]
theorem ofN_on {op : Int} {t x : Tr} {k j : Int} (h : nmT t = none) (hk : shK op k = k) (h1 : idleB op k = false) (h2 : (zeroB op k || fullB op k) = false) (h3 : chn op t = some (x, j)) : ofN op t k = ofN op x (told op j k) := by
  rw [ofN_none h, rgtT_eq, hk, if_neg (by rw [h1]; decide), if_neg (zf_no h2).1, if_neg (zf_no h2).2, h3]
  rfl
theorem may_op2 {op : Int} {a p n : Nat} (h : isOp op = true) (h2 : op ≠ 128) (ha : a < n) (hp : p < n) : may (256 + op, (a : Int), (p : Int), 0) n = true := by
  have h256 : isA (256 + op) = true := by rw [Int.add_comm]; exact h
  rw [may_two (x := (256 + op, (a : Int), (p : Int), 0)) h256 (by show 256 + op ≠ 384; omega)]
  simp [ha, hp]
theorem may_ng {a n : Nat} (ha : a < n) : may (384, (a : Int), 0, 0) n = true := by
  rw [may_neg (x := (384, (a : Int), 0, 0)) rfl]
  simp [ha]
theorem tr_op2 {op : Int} {a p : Nat} (h : isOp op = true) (h2 : op ≠ 128) (f : Nat → Tr) : trN (256 + op, (a : Int), (p : Int), 0) f = op2 op (f a) (f p) := by
  have h256 : isA (256 + op) = true := by rw [Int.add_comm]; exact h
  rw [trN_two (x := (256 + op, (a : Int), (p : Int), 0)) h256 (by show 256 + op ≠ 384; omega)]
  show op2 (256 + op - 256) _ _ = _
  rw [show 256 + op - 256 = op by omega]; rfl
theorem ok_op2 {op : Int} {a p : Nat} (h : isOp op = true) (ha : a < 65536) (hp : p < 65536) : okN (256 + op, (a : Int), (p : Int), 0) := by
  have := isOp_iff.1 h
  unfold okN; dsimp only; omega
theorem ok_ng {a : Nat} (ha : a < 65536) : okN (384, (a : Int), 0, 0) := by unfold okN; dsimp only; omega
theorem trn_sh {op : Int} (h : trn op = true) (k : Int) : shK op k = k := by
  have := trn_iff.1 h
  unfold shK; rw [if_neg (by omega)]
end Go.Proofs.Ytapbeffjnpgglab.TM
namespace Go.Proofs.Ytapbeffjnpgglab.TB
open Go.ChangeShapes Go.WideShapes Go.ChangeAt Go.RowKit
open Go.Sort hiding Below
set_option linter.unusedVariables false
set_option maxRecDepth 100000
theorem Fr.comp {W W1 W2 : World} {F F1 : Nat → Prop} (h : Fr W W1 F) (h1 : Fr W1 W2 F1) (hF : ∀ b, F1 b → F b ∨ W.heap.size ≤ b) : Fr W W2 F :=
  ⟨h1.os.trans h.os, h1.tape.trans h.tape, h1.output.trans h.output, Nat.le_trans h.size h1.size, fun b hb hn => by
    rw [h1.block b (Nat.lt_of_lt_of_le hb h.size) (fun hf => by
      rcases hF b hf with e | e
      · exact hn e
      · omega)]
    exact h.block b hb hn⟩
theorem ok_isOp (op : Int) : WM.ok op 1 = TM.isOp op := by
  rw [Bool.eq_iff_iff, TM.isOp_iff]
  unfold WM.ok
  simp only [Bool.or_eq_true, beq_iff_eq, Bool.and_eq_true, bne_iff_ne]
  omega
theorem PoolAt.mono {Pl : PoolIs} {W : World} {F : Nat → Prop} {v : Value} {L : List TM.N} {t : TM.Tr} {B B2 : Nat} {e : Ending} {w' : World} (h : PoolAt Pl W F v L t B e w') (hB : B ≤ B2) : PoolAt Pl W F v L t B2 e w' := by
  obtain ⟨F', L', p, h1, h2, h3, h4⟩ := h
  exact ⟨F', L', p, h1, h2, by omega, h4⟩
theorem PoolAt.below {Pl : PoolIs} {W W1 : World} {F : Nat → Prop} {v : Value} {L : List TM.N} {t : TM.Tr} {B : Nat} {e : Ending} {w' : World} (hb : Below W.heap.size W W1) (h : PoolAt Pl W1 F v L t B e w') : PoolAt Pl W F v L t B e w' := by
  obtain ⟨F', L', p, h1, h2, h3, h4, h5, h6⟩ := h
  exact ⟨F', L', p, h1, h2, h3, h4, (Fr.of_below hb).comp h5 (fun b h => .inl h), fun b hb' => by
    rcases h6 b hb' with h | h
    · exact .inl h
    · exact .inr (Nat.le_trans hb.size h)⟩
theorem PoolAt.after {Pl : PoolIs} {W W' : World} {F : Nat → Prop} {v : Value} {L : List TM.N} {t : TM.Tr} {B : Nat} {e : Ending} {w' : World} (h : PoolAt Pl W F v L t B e w') (hk : ∀ (F' : Nat → Prop) L', Pl w' F' v L' → Pl W' F' v L') (hb : Below w'.heap.size w' W') : PoolAt Pl W F v L t B e W' := by
  obtain ⟨F', L', p, h1, h2, h3, h4, h5, h6⟩ := h
  exact ⟨F', L', p, h1, h2, h3, hk _ _ h4, h5.below2 hb, h6⟩
/-- what is there already -/
theorem PoolAt.here {Pl : PoolIs} {W W1 : World} {F : Nat → Prop} {v : Value} {L : List TM.N} (h : Pl W1 F v L) (h1 : TM.Row L) (h2 : TM.Once L) (h3 : ∀ x ∈ L, TM.okN x) {p : Nat} (hp : p < L.length) {t : TM.Tr} (ht : TM.tr L p = t) (B : Nat) (hb : Below W.heap.size W W1) : PoolAt Pl W F v L t B (.returned (.tuple #[.int .i64 ((p : Nat) : Int), .int .i64 0])) W1 :=
  ⟨F, L, p, rfl, by rw [← ht]; exact TM.Made.here h1 h2 h3 hp, by omega, h, Fr.of_below hb, fun b h => .inl h⟩
theorem bdrewB {B : Nat} {W W' : World} (h : Below B W W') : Below B W W'.drew := h.trans (Below.refl _ _).drew
set_option maxHeartbeats 1600000 in
theorem creckoned0 (op a b : Int) (ho : TM.isOp op = true) (ha : TM.W32 a) (hb : TM.W32 b) (w : World) :
    Calls Try.prog 42 #[.int .i64 op, .int .u32 a, .int .u32 b] w fun e w' => e = .returned (.int .u32 (TM.told op a b)) ∧ w' = w := by
  rw [TM.told_val ho]
  have HA := hid (WB.alu_any op a b ha.1 ha.2 hb.1 w)
  clear ho ha hb
  go_enter Try.func42, Try.ntmps42
  go_wp2_with (go_at_call 19; refine HA.out.mono ?_; rintro e w1 ⟨rfl, rfl⟩; clear HA)
  go_ret
  exact ⟨rfl, rfl⟩
end Go.Proofs.Ytapbeffjnpgglab.TB
