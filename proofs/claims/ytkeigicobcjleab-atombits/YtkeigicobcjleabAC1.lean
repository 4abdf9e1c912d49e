/-
  The program's cutTo, shared, equal of layer 13, as walks over the Go text.
-/
import Derived.Test.YtkeigicobcjleabAC0
import Derived.Test.YtkeigicobcjleabTC2
namespace Go.Proofs.Ytkeigicobcjleab.TM
set_option linter.unusedVariables false
theorem andNot_zero (a b : Nat) (ha : a < 2 ^ 32) (hb : b < 2 ^ 32) : a &&& (2 ^ 32 - (b + 1)) = 0 ↔ b &&& a = a := by
  constructor
  · intro h
    apply Nat.eq_of_testBit_eq
    intro i
    have := congrArg (fun x => x.testBit i) h
    simp only [Nat.testBit_and, Nat.zero_testBit, Nat.testBit_two_pow_sub_succ hb] at this
    rw [Nat.testBit_and]
    by_cases hi : i < 32
    · simp only [hi, decide_true, Bool.true_and] at this
      cases h1 : a.testBit i <;> cases h2 : b.testBit i <;> simp_all
    · have : a.testBit i = false := Nat.testBit_lt_two_pow (Nat.lt_of_lt_of_le ha (Nat.pow_le_pow_right (by omega) (by omega)))
      rw [this, Bool.and_false]
  · intro h
    apply Nat.eq_of_testBit_eq
    intro i
    have := congrArg (fun x => x.testBit i) h
    simp only [Nat.testBit_and] at this
    rw [Nat.testBit_and, Nat.testBit_two_pow_sub_succ hb, Nat.zero_testBit]
    cases h1 : a.testBit i <;> cases h2 : b.testBit i <;> simp_all
theorem u32_andNot (a b : Nat) (ha : a < 4294967296) (hb : b < 4294967296) : bits .andNot .u32 (a : Int) (b : Int) = ((a &&& (2 ^ 32 - (b + 1)) : Nat) : Int) := by
  have hx : a &&& (2 ^ 32 - (b + 1)) < 2 ^ 32 := Nat.lt_of_le_of_lt Nat.and_le_left (by omega)
  show IntKind.u32.wrap ((BitVec.ofInt 32 (a : Int) &&& ~~~ BitVec.ofInt 32 (b : Int)).toNat : Int) = _
  have e : ∀ n : Nat, n < 4294967296 → (BitVec.ofInt 32 (n : Int)).toNat = n := fun n hn => by
    rw [BitVec.toNat_ofInt]; omega
  rw [BitVec.toNat_and, BitVec.toNat_not, e a ha, e b hb, IntKind.wrap_u32']
  rw [show 2 ^ 32 - 1 - b = 2 ^ 32 - (b + 1) from by omega]
  omega
theorem cut_bits {j k : Int} (hj : W32 j) (hk : W32 k) : (bits .andNot .u32 k j != 0) = decide (told 80 j k ≠ k) := by
  obtain ⟨J, rfl, hJ⟩ := hj.nat
  obtain ⟨K, rfl, hK⟩ := hk.nat
  rw [u32_andNot K J hK hJ, told_trn (by decide), WM.n_and J K hJ hK, Bool.eq_iff_iff, bne_iff_ne, decide_eq_true_iff]
  have := andNot_zero K J (by omega) (by omega)
  constructor
  · intro h e
    exact h (by have := this.2 (by omega); omega)
  · intro h e
    exact h (by have := this.1 (by omega); omega)
theorem told_bits (j k : Int) : bits .and .u32 j k = told 80 j k := by
  rw [told_trn (by decide)]; rfl
end Go.Proofs.Ytkeigicobcjleab.TM
namespace Go.Proofs.Ytkeigicobcjleab.TB
open Go.ChangeShapes Go.WideShapes Go.ChangeAt Go.RowKit
open Go.Sort hiding Below
set_option linter.unusedVariables false
set_option maxRecDepth 100000
theorem pl_belowA {W W' : World} {F : Nat → Prop} {v : Value} {L : List TM.N} (h : Pl W F v L) (hb : Below W.heap.size W W') : Pl W' F v L :=
  pl_keep W W' F v L h hb.size (fun b hf => hb.block b (pl_lt W F v L h b hf))
theorem al3 (w : World) (x y z : Obj) : Below w.heap.size w (((w.alloc x).alloc y).alloc z) := (al_al w x y).trans ((al _ z).mono (al_al w x y).size)
set_option maxHeartbeats 1600000 in
theorem ccut_no (v : Value) (o a b k : Int) (h : o ≠ 336) (w : World) : Calls Try.prog 56 #[v, .agg #[.int .i64 o, .int .i64 a, .int .i64 b, .int .u32 k]] w fun e w' => e = .returned (.tuple #[.int .u32 0, .bool false]) ∧ Below w.heap.size w w' := by
  have c1 : (o != 336) = true := bne_iff_ne.2 h
  clear h
  go_enter Try.func56, Try.ntmps56
  go_wp2
  go_ret2
  exact ⟨rfl, al w _⟩
set_option maxHeartbeats 1600000 in
theorem ccut_at (F : Nat → Prop) (v : Value) (L : List TM.N) (a k : Int) (b : Nat) (hb : b < L.length) (yo ya yb yk : Int) (hy : L[b] = (yo, ya, yb, yk)) (w : World) (h : Pl w F v L) : Calls Try.prog 56 #[v, .agg #[.int .i64 336, .int .i64 a, .int .i64 (b : Int), .int .u32 k]] w fun e w' => e = .returned (.tuple #[.int .u32 yk, .bool (yo == 1)]) ∧ Below w.heap.size w w' := by
  have HB0 := hid (al w (.cells #[.int .i64 336, .int .i64 a, .int .i64 b, .int .u32 k] 28))
  have HA := hid (fun w1 (hw : Below w.heap.size w w1) => pl_has w1 F v L b (pl_belowA h hw) hb yo ya yb yk hy)
  clear h hb hy
  go_enter Try.func56, Try.ntmps56
  go_wp2_with (go_at_call 17; refine (HA.out _ HB0.out).mono ?_; rintro e w1 ⟨rfl, hb⟩; have HB := stp (stp HB0 hb) (al w1 (.cells #[.int .i64 yo, .int .i64 ya, .int .i64 yb, .int .u32 yk] 28)); have HN := hid (NAt.new w1 yo ya yb yk); obtain ⟨q0, q1, q2, q3, qf⟩ := HN.out.cells; clear hb HA HB0)
  go_quiet (fail)
  go_wp2
  go_ret2
  exact ⟨rfl, bdrew HB.out nq⟩
end Go.Proofs.Ytkeigicobcjleab.TB
namespace Go.Proofs.Ytkeigicobcjleab.TB
open Go.ChangeShapes Go.WideShapes Go.ChangeAt Go.RowKit
open Go.Sort hiding Below
set_option linter.unusedVariables false
set_option maxRecDepth 100000
/-- a question's box, a node's, and the answer's -/
structure QnSt (w W : World) (o a k : Int) (n : Bool) (xo xa xb xk : Int) (o2 a2 k2 : Int) (n2 : Bool) : Prop where
  q : QAt W w.heap.size o a k n
  x : NAt W (w.heap.size + 1) (xo, xa, xb, xk)
  z : QAt W (w.heap.size + 2) o2 a2 k2 n2
  bl : Below w.heap.size w W
theorem QnSt.new (w : World) (o a k : Int) (n : Bool) (xo xa xb xk : Int) (o2 a2 k2 : Int) (n2 : Bool) : QnSt w (((w.alloc (.cells #[.int .i64 o, .int .i64 a, .int .u32 k, .bool n] 69)).alloc (.cells #[.int .i64 xo, .int .i64 xa, .int .i64 xb, .int .u32 xk] 28)).alloc (.cells #[.int .i64 o2, .int .i64 a2, .int .u32 k2, .bool n2] 69)) o a k n xo xa xb xk o2 a2 k2 n2 := by
  have hs : (w.alloc (.cells #[.int .i64 o, .int .i64 a, .int .u32 k, .bool n] 69)).heap.size = w.heap.size + 1 := by simp
  have hs2 : ((w.alloc (.cells #[.int .i64 o, .int .i64 a, .int .u32 k, .bool n] 69)).alloc (.cells #[.int .i64 xo, .int .i64 xa, .int .i64 xb, .int .u32 xk] 28)).heap.size = w.heap.size + 2 := by simp
  have hN := NAt.new (w.alloc (.cells #[.int .i64 o, .int .i64 a, .int .u32 k, .bool n] 69)) xo xa xb xk
  rw [hs] at hN
  have hZ := QAt.new ((w.alloc (.cells #[.int .i64 o, .int .i64 a, .int .u32 k, .bool n] 69)).alloc (.cells #[.int .i64 xo, .int .i64 xa, .int .i64 xb, .int .u32 xk] 28)) o2 a2 k2 n2
  rw [hs2] at hZ
  exact ⟨((QAt.new w o a k n).alloc _).alloc _, hN.alloc _, hZ, al3 w _ _ _⟩
theorem QnSt.below {w W W' : World} {o a k : Int} {n : Bool} {xo xa xb xk : Int} {o2 a2 k2 : Int} {n2 : Bool} (h : QnSt w W o a k n xo xa xb xk o2 a2 k2 n2) (hb : Below W.heap.size W W') : QnSt w W' o a k n xo xa xb xk o2 a2 k2 n2 :=
  ⟨h.q.below hb, h.x.below hb, h.z.below hb, h.bl.trans (hb.mono h.bl.size)⟩
theorem QnSt.putz {w W : World} {o a k : Int} {n : Bool} {xo xa xb xk : Int} {o2 a2 k2 : Int} {n2 : Bool} (h : QnSt w W o a k n xo xa xb xk o2 a2 k2 n2) (o' a' k' : Int) (n' : Bool) :
    QAt (qput W (w.heap.size + 2) o' a' k' n') (w.heap.size + 2) o' a' k' n' ∧ Below w.heap.size w (qput W (w.heap.size + 2) o' a' k' n') :=
  ⟨h.z.put o' a' k' n', qput_below h.bl (by omega)⟩
theorem QnSt.setq {w W : World} {o a k : Int} {n : Bool} {xo xa xb xk : Int} {o2 a2 k2 : Int} {n2 : Bool} (h : QnSt w W o a k n xo xa xb xk o2 a2 k2 n2) (a' k' : Int) :
    QnSt w ((W.setCell ⟨w.heap.size, 1, none⟩ (.int .i64 a')).setCell ⟨w.heap.size, 2, none⟩ (.int .u32 k')) o a' k' n xo xa xb xk o2 a2 k2 n2 :=
  ⟨(h.q.set1 a').set2 k', (h.x.off (by omega)).off (by omega), (h.z.off (by omega)).off (by omega), (h.bl.setCell (Nat.le_refl _) _).setCell (Nat.le_refl _) _⟩

set_option maxHeartbeats 3200000 in
theorem cshr1 (v : Value) (a : Int) (n : Bool) (xo xa xb xk : Int) (w : World) : Calls Try.prog 50 #[quV 64 a 0 n, v, .agg #[.int .i64 xo, .int .i64 xa, .int .i64 xb, .int .u32 xk]] w fun e w' =>
    e = quE 64 a 0 n (((TM.knB false n).1 : Nat) : Int) ∧ Below w.heap.size w w' := by
  have HS := hid (fun w => csettled false n w)
  have HQ := hid (QnSt.new w 64 a 0 n xo xa xb xk 64 a 0 n)
  go_enter Try.func50, Try.ntmps50
  go_wp2
  go_region_with (go_at_call 41; refine (HS.out _).mono ?_; rintro e w1 ⟨rfl, rfl⟩)
  all_goals
    go_wp2
    refine bodyPost_ret (results_qu2 (p := 6) (u := 7) rfl _ _ rfl HQ.out.z) rfl ?_
    exact ⟨rfl, bdrewD HQ.out.bl⟩
set_option maxHeartbeats 3200000 in
theorem cshr2 (v : Value) (a : Int) (n : Bool) (xo xa xb xk : Int) (w : World) : Calls Try.prog 50 #[quV 64 a 4294967295 n, v, .agg #[.int .i64 xo, .int .i64 xa, .int .i64 xb, .int .u32 xk]] w fun e w' =>
    e = quE 16 a 0 (!n) 1 ∧ Below w.heap.size w w' := by
  have HN := hid (fun w => cnotZero 64 a 4294967295 n w)
  have HQ := hid (QnSt.new w 64 a 4294967295 n xo xa xb xk 0 0 0 false)
  go_enter Try.func50, Try.ntmps50
  go_wp2_with (go_at_call 55; refine (HN.out _).mono ?_; clear HN; rintro e w1 ⟨rfl, hb⟩; have HQ2 := hid (HQ.out.below hb); clear hb HQ; obtain ⟨q0, q1, q2, q3, qf⟩ := HQ2.out.z.cells)
  have hZ := (HQ2.out.putz 16 a 0 (!n)).1
  have hY := (HQ2.out.putz 16 a 0 (!n)).2
  unfold qput at hZ hY
  refine bodyPost_ret (results_qu2 (p := 6) (u := 7) rfl _ _ rfl hZ) rfl ?_
  exact ⟨rfl, hY⟩
set_option maxHeartbeats 3200000 in
theorem cshr3 (v : Value) (a k j : Int) (n : Bool) (h1 : k ≠ 4294967295) (h2 : k ≠ 0) (xo xa xb xk : Int) (w : World)
    (hC : ∀ w1, Below w.heap.size w w1 → Calls Try.prog 56 #[v, .agg #[.int .i64 xo, .int .i64 xa, .int .i64 xb, .int .u32 xk]] w1 fun e w' => e = .returned (.tuple #[.int .u32 j, .bool true]) ∧ Below w1.heap.size w1 w') :
    Calls Try.prog 50 #[quV 64 a k n, v, .agg #[.int .i64 xo, .int .i64 xa, .int .i64 xb, .int .u32 xk]] w fun e w' => e = quE 64 xa (bits .and .u32 j k) n 1 ∧ Below w.heap.size w w' := by
  have c1 : (k == 4294967295) = false := by simp [h1]
  have c2 : (k == 0) = false := by simp [h2]
  have HQ := hid (QnSt.new w 64 a k n xo xa xb xk 0 0 0 false)
  have HC := hid hC
  clear h1 h2 hC
  go_enter Try.func50, Try.ntmps50
  go_wp2_with (go_at_call 56; refine (HC.out _ HQ.out.bl).mono ?_; clear HC; rintro e w1 ⟨rfl, hb⟩; have HQ2 := hid (HQ.out.below hb); clear hb HQ; have HQ3 := hid (HQ2.out.setq xa (bits .and .u32 j k)); obtain ⟨q0, q1, q2, q3, qf⟩ := HQ2.out.q.cells; obtain ⟨x0, x1, x2, x3, xf⟩ := HQ2.out.x.cells; obtain ⟨r0, r1, r2, r3, rf⟩ := HQ3.out.q.cells; obtain ⟨s0, s1, s2, s3, sf⟩ := HQ3.out.z.cells)
  have hZ := (HQ3.out.putz 64 xa (bits .and .u32 j k) n).1
  have hY := (HQ3.out.putz 64 xa (bits .and .u32 j k) n).2
  unfold qput at hZ hY
  refine bodyPost_ret (results_qu2 (p := 6) (u := 7) rfl _ _ rfl hZ) rfl ?_
  exact ⟨rfl, hY⟩
set_option maxHeartbeats 3200000 in
theorem cshr4 (v : Value) (a k j : Int) (n : Bool) (h1 : k ≠ 4294967295) (h2 : k ≠ 0) (xo xa xb xk : Int) (w : World)
    (hC : ∀ w1, Below w.heap.size w w1 → Calls Try.prog 56 #[v, .agg #[.int .i64 xo, .int .i64 xa, .int .i64 xb, .int .u32 xk]] w1 fun e w' => e = .returned (.tuple #[.int .u32 j, .bool false]) ∧ Below w1.heap.size w1 w') :
    Calls Try.prog 50 #[quV 64 a k n, v, .agg #[.int .i64 xo, .int .i64 xa, .int .i64 xb, .int .u32 xk]] w fun e w' => e = quE 64 a k n 1 ∧ Below w.heap.size w w' := by
  have c1 : (k == 4294967295) = false := by simp [h1]
  have c2 : (k == 0) = false := by simp [h2]
  have HQ := hid (QnSt.new w 64 a k n xo xa xb xk 0 0 0 false)
  have HC := hid hC
  clear h1 h2 hC
  go_enter Try.func50, Try.ntmps50
  go_wp2_with (go_at_call 56; refine (HC.out _ HQ.out.bl).mono ?_; clear HC; rintro e w1 ⟨rfl, hb⟩; have HQ2 := hid (HQ.out.below hb); clear hb HQ; obtain ⟨q0, q1, q2, q3, qf⟩ := HQ2.out.q.cells; obtain ⟨s0, s1, s2, s3, sf⟩ := HQ2.out.z.cells)
  have hZ := (HQ2.out.putz 64 a k n).1
  have hY := (HQ2.out.putz 64 a k n).2
  unfold qput at hZ hY
  refine bodyPost_ret (results_qu2 (p := 6) (u := 7) rfl _ _ rfl hZ) rfl ?_
  exact ⟨rfl, hY⟩
end Go.Proofs.Ytkeigicobcjleab.TB
namespace Go.Proofs.Ytkeigicobcjleab.TB
open Go.ChangeShapes Go.WideShapes Go.ChangeAt Go.RowKit
open Go.Sort hiding Below
set_option linter.unusedVariables false
set_option maxRecDepth 100000
/-- what cutTo tells of a node, wherever -/
def CutIs (w : World) (v : Value) (xo xa xb xk j : Int) (c : Bool) : Prop := ∀ w1, Below w.heap.size w w1 → Calls Try.prog 56 #[v, .agg #[.int .i64 xo, .int .i64 xa, .int .i64 xb, .int .u32 xk]] w1 fun e w' => e = .returned (.tuple #[.int .u32 j, .bool c]) ∧ Below w1.heap.size w1 w'
set_option maxHeartbeats 3200000 in
theorem ceql1 (v : Value) (a k j : Int) (n : Bool) (xo xa xb xk : Int) (w : World) (hC : CutIs w v xo xa xb xk j false) :
    Calls Try.prog 51 #[quV 16 a k n, v, .agg #[.int .i64 xo, .int .i64 xa, .int .i64 xb, .int .u32 xk]] w fun e w' => e = quE 16 a k n 1 ∧ Below w.heap.size w w' := by
  have HQ := hid (QnSt.new w 16 a k n xo xa xb xk 0 0 0 false)
  have HC := hid hC
  clear hC
  go_enter Try.func51, Try.ntmps51
  go_wp2_with (go_at_call 56; refine (HC.out _ HQ.out.bl).mono ?_; clear HC; rintro e w1 ⟨rfl, hb⟩; have HQ2 := hid (HQ.out.below hb); clear hb HQ; obtain ⟨q0, q1, q2, q3, qf⟩ := HQ2.out.q.cells; obtain ⟨s0, s1, s2, s3, sf⟩ := HQ2.out.z.cells)
  have hZ := (HQ2.out.putz 16 a k n).1
  have hY := (HQ2.out.putz 16 a k n).2
  unfold qput at hZ hY
  refine bodyPost_ret (results_qu2 (p := 6) (u := 7) rfl _ _ rfl hZ) rfl ?_
  exact ⟨rfl, hY⟩
set_option maxHeartbeats 3200000 in
theorem ceql3 (v : Value) (a k j : Int) (n : Bool) (xo xa xb xk : Int) (w : World) (hC : CutIs w v xo xa xb xk j true) (hb : (bits .andNot .u32 k j != 0) = false) (h0 : k ≠ 0) :
    Calls Try.prog 51 #[quV 16 a k n, v, .agg #[.int .i64 xo, .int .i64 xa, .int .i64 xb, .int .u32 xk]] w fun e w' => e = quE 16 a k n 1 ∧ Below w.heap.size w w' := by
  have HQ := hid (QnSt.new w 16 a k n xo xa xb xk 0 0 0 false)
  have HC := hid hC
  have c2 : (k == 0) = false := by simp [h0]
  clear hC h0
  go_enter Try.func51, Try.ntmps51
  go_wp2_with (go_at_call 56; refine (HC.out _ HQ.out.bl).mono ?_; clear HC; rintro e w1 ⟨rfl, hb⟩; have HQ2 := hid (HQ.out.below hb); clear hb HQ; obtain ⟨q0, q1, q2, q3, qf⟩ := HQ2.out.q.cells; obtain ⟨s0, s1, s2, s3, sf⟩ := HQ2.out.z.cells)
  have hZ := (HQ2.out.putz 16 a k n).1
  have hY := (HQ2.out.putz 16 a k n).2
  unfold qput at hZ hY
  refine bodyPost_ret (results_qu2 (p := 6) (u := 7) rfl _ _ rfl hZ) rfl ?_
  exact ⟨rfl, hY⟩
set_option maxHeartbeats 3200000 in
theorem ceql4 (v : Value) (a j : Int) (n : Bool) (xo xa xb xk : Int) (w : World) (hC : CutIs w v xo xa xb xk j true) (hb : (bits .andNot .u32 0 j != 0) = false) :
    Calls Try.prog 51 #[quV 16 a 0 n, v, .agg #[.int .i64 xo, .int .i64 xa, .int .i64 xb, .int .u32 xk]] w fun e w' => e = quE 64 xa j (!n) 1 ∧ Below w.heap.size w w' := by
  have HQ := hid (QnSt.new w 16 a 0 n xo xa xb xk 0 0 0 false)
  have HC := hid hC
  clear hC
  go_enter Try.func51, Try.ntmps51
  go_wp2_with (go_at_call 56; refine (HC.out _ HQ.out.bl).mono ?_; clear HC; rintro e w1 ⟨rfl, hb⟩; have HQ2 := hid (HQ.out.below hb); clear hb HQ; obtain ⟨q0, q1, q2, q3, qf⟩ := HQ2.out.q.cells; obtain ⟨x0, x1, x2, x3, xf⟩ := HQ2.out.x.cells; obtain ⟨s0, s1, s2, s3, sf⟩ := HQ2.out.z.cells)
  have hZ := (HQ2.out.putz 64 xa j (!n)).1
  have hY := (HQ2.out.putz 64 xa j (!n)).2
  unfold qput at hZ hY
  refine bodyPost_ret (results_qu2 (p := 6) (u := 7) rfl _ _ rfl hZ) rfl ?_
  exact ⟨rfl, hY⟩
set_option maxHeartbeats 3200000 in
theorem ceql2 (v : Value) (a k j : Int) (n : Bool) (xo xa xb xk : Int) (w : World) (hC : CutIs w v xo xa xb xk j true) (hb : (bits .andNot .u32 k j != 0) = true) :
    Calls Try.prog 51 #[quV 16 a k n, v, .agg #[.int .i64 xo, .int .i64 xa, .int .i64 xb, .int .u32 xk]] w fun e w' => e = quE 16 a k n (((TM.knB false n).1 : Nat) : Int) ∧ Below w.heap.size w w' := by
  have HQ := hid (QnSt.new w 16 a k n xo xa xb xk 0 0 0 false)
  have HC := hid hC
  have HS := hid (fun w => csettled false n w)
  clear hC
  go_enter Try.func51, Try.ntmps51
  go_wp2_with (go_at_call 56; refine (HC.out _ HQ.out.bl).mono ?_; clear HC; rintro e w1 ⟨rfl, hb⟩; have HQ2 := hid (HQ.out.below hb); clear hb HQ; obtain ⟨q0, q1, q2, q3, qf⟩ := HQ2.out.q.cells; obtain ⟨s0, s1, s2, s3, sf⟩ := HQ2.out.z.cells)
  have HQ3 := hid (HQ2.out.below (bdrewD (Below.refl _ _)))
  obtain ⟨p0, p1, p2, p3, pf⟩ := HQ3.out.q.cells
  obtain ⟨t0, t1, t2, t3, tf⟩ := HQ3.out.z.cells
  clear hb
  go_region_with (go_at_call 41; refine (HS.out _).mono ?_; rintro e w1 ⟨rfl, rfl⟩)
  all_goals
    go_wp2
    have hZ := (HQ3.out.putz 16 a k n).1
    have hY := (HQ3.out.putz 16 a k n).2
    unfold qput at hZ hY
    refine bodyPost_ret (results_qu2 (p := 6) (u := 7) rfl _ _ rfl hZ) rfl ?_
    exact ⟨rfl, hY⟩
end Go.Proofs.Ytkeigicobcjleab.TB
