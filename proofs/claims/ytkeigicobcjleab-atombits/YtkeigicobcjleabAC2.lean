/-
  The program's simpler of layer 13, as walks over the Go text.
-/
import Derived.Test.YtkeigicobcjleabAC1
import Derived.Test.YtkeigicobcjleabH5
import Derived.Test.YtkeigicobcjleabAtoLawP
import Derived.Test.YtkeigicobcjleabSC1
namespace Go.Proofs.Ytkeigicobcjleab.TB
open Go.ChangeShapes Go.WideShapes Go.ChangeAt Go.RowKit
open Go.Sort hiding Below
set_option linter.unusedVariables false
set_option maxRecDepth 100000
/-- a question's box, the answer's, and a node's that was told -/
structure SpSt (w W : World) (nb : Nat) (o a k : Int) (n : Bool) (x : TM.N) (o2 a2 k2 : Int) (n2 : Bool) : Prop where
  q : QAt W w.heap.size o a k n
  z : QAt W (w.heap.size + 1) o2 a2 k2 n2
  x : NAt W nb x
  bl : Below w.heap.size w W
theorem SpSt.below {w W W' : World} {nb : Nat} {o a k : Int} {n : Bool} {x : TM.N} {o2 a2 k2 : Int} {n2 : Bool} (h : SpSt w W nb o a k n x o2 a2 k2 n2) (hb : Below W.heap.size W W') : SpSt w W' nb o a k n x o2 a2 k2 n2 :=
  ⟨h.q.below hb, h.z.below hb, h.x.below hb, h.bl.trans (hb.mono h.bl.size)⟩
theorem SpSt.putz {w W : World} {nb : Nat} {o a k : Int} {n : Bool} {x : TM.N} {o2 a2 k2 : Int} {n2 : Bool} (h : SpSt w W nb o a k n x o2 a2 k2 n2) (o' a' k' : Int) (n' : Bool) :
    QAt (qput W (w.heap.size + 1) o' a' k' n') (w.heap.size + 1) o' a' k' n' ∧ Below w.heap.size w (qput W (w.heap.size + 1) o' a' k' n') :=
  ⟨h.z.put o' a' k' n', qput_below h.bl (by omega)⟩
theorem SpSt.new {w w1 : World} (o a k : Int) (n : Bool) (xo xa xb xk : Int) (hb : Below ((w.alloc (.cells #[.int .i64 o, .int .i64 a, .int .u32 k, .bool n] 69)).alloc (.cells #[.int .i64 0, .int .i64 0, .int .u32 0, .bool false] 69)).heap.size ((w.alloc (.cells #[.int .i64 o, .int .i64 a, .int .u32 k, .bool n] 69)).alloc (.cells #[.int .i64 0, .int .i64 0, .int .u32 0, .bool false] 69)) w1) :
    SpSt w (w1.alloc (.cells #[.int .i64 xo, .int .i64 xa, .int .i64 xb, .int .u32 xk] 28)) w1.heap.size o a k n (xo, xa, xb, xk) 0 0 0 false :=
  ⟨(((QAt.new w o a k n).alloc _).below hb).alloc _, ((qu_new2 w o a k n 0 0 0 false).below hb).alloc _, NAt.new w1 xo xa xb xk, ((al_al w _ _).trans (hb.mono (al_al w _ _).size)).trans ((al w1 _).mono ((al_al w _ _).trans (hb.mono (al_al w _ _).size)).size)⟩
/-- what At tells, wherever -/
def AtIs (w : World) (v : Value) (a xo xa xb xk : Int) : Prop := ∀ w1, Below w.heap.size w w1 → Calls Try.prog 17 #[v, .int .i64 a] w1 fun e w' => e = .returned (.tuple #[.agg #[.int .i64 xo, .int .i64 xa, .int .i64 xb, .int .u32 xk], .bool true]) ∧ Below w1.heap.size w1 w'

set_option maxHeartbeats 3200000 in
theorem csimp0 (v : Value) (op a k xa xb xk : Int) (n : Bool) (w : World) (hA : AtIs w v a 1 xa xb xk) :
    Calls Try.prog 39 #[quV op a k n, v] w fun e w' => e = quE op a k n (((TM.knB (WM.ask op xk k) n).1 : Nat) : Int) ∧ Below w.heap.size w w' := by
  have HA := hid hA
  have HK := hid (fun w => WB.ask_any op xk k w)
  have HS := hid (fun w => csettled (WM.ask op xk k) n w)
  clear hA
  go_enter Try.func39, Try.ntmps39
  go_wp2_with (go_at_call 17; refine (HA.out _ (al_al w _ _)).mono ?_; clear HA; rintro e w1 ⟨rfl, hb⟩; have HQ := hid (SpSt.new op a k n 1 xa xb xk hb); clear hb; obtain ⟨q0, q1, q2, q3, qf⟩ := HQ.out.q.cells; obtain ⟨x0, x1, x2, x3, xf⟩ := HQ.out.x.cells)
  have HQ2 := hid (HQ.out.below (bdrewD (Below.refl _ _)))
  obtain ⟨s0, s1, s2, s3, sf⟩ := HQ.out.z.cells
  clear HQ
  obtain ⟨p0, p1, p2, p3, pf⟩ := HQ2.out.q.cells
  obtain ⟨t0, t1, t2, t3, tf⟩ := HQ2.out.z.cells
  obtain ⟨y0, y1, y2, y3, yf⟩ := HQ2.out.x.cells
  refine wp_region_still_tail 11 (by kernel_rfl) (by kernel_rfl) ?_
  change wpStill _ _ (World.drew _) (fun a' => wpList _ _ _ _ a' (World.drew _)) _ _
  simp only [List.take_succ_cons, List.take_zero, List.drop_succ_cons, List.drop_zero]
  repeat still_step
  still_call (HK.out _)
  repeat still_step
  still_call (HS.out _)
  refine wpStill_nil ?_
  go_wp2_with fail
  have hZ := (HQ2.out.putz op a k n).1
  have hY := (HQ2.out.putz op a k n).2
  unfold qput at hZ hY
  refine bodyPost_ret (results_qu2 (p := 4) (u := 5) rfl _ _ rfl hZ) rfl ?_
  exact ⟨rfl, hY⟩
set_option maxHeartbeats 3200000 in
theorem csimp32 (v : Value) (a k xo xa xb xk : Int) (n : Bool) (h1 : xo ≠ 1) (w : World) (hA : AtIs w v a xo xa xb xk) (o' a' k' kn : Int) (n' : Bool)
    (hR : ∀ w1, Below w.heap.size w w1 → Calls Try.prog 48 #[quV 32 a k n] w1 fun e w' => e = quE o' a' k' n' kn ∧ Below w1.heap.size w1 w') :
    Calls Try.prog 39 #[quV 32 a k n, v] w fun e w' => e = quE o' a' k' n' kn ∧ Below w.heap.size w w' := by
  have HA := hid hA
  have HR := hid hR
  have c1 : (xo == 1) = false := by simp [h1]
  clear hA hR h1
  go_enter Try.func39, Try.ntmps39
  go_wp2_with (first
    | (go_at_call 17; refine (HA.out _ (al_al w _ _)).mono ?_; clear HA; rintro e w1 ⟨rfl, hb⟩; have HQ := hid (SpSt.new 32 a k n xo xa xb xk hb); clear hb; obtain ⟨q0, q1, q2, q3, qf⟩ := HQ.out.q.cells; obtain ⟨x0, x1, x2, x3, xf⟩ := HQ.out.x.cells)
    | (go_at_call 48; refine (HR.out _ HQ.out.bl).mono ?_; clear HR; rintro e w2 ⟨he, hb⟩; unfold quE at he; subst he; have HQ2 := hid (HQ.out.below hb); clear hb HQ q0 q1 q2 q3 qf x0 x1 x2 x3 xf; obtain ⟨q0, q1, q2, q3, qf⟩ := HQ2.out.q.cells; obtain ⟨t0, t1, t2, t3, tf⟩ := HQ2.out.z.cells))
  have hZ := (HQ2.out.putz o' a' k' n').1
  have hY := (HQ2.out.putz o' a' k' n').2
  unfold qput at hZ hY
  refine bodyPost_ret (results_qu2 (p := 4) (u := 5) rfl _ _ rfl hZ) rfl ?_
  exact ⟨rfl, hY⟩
set_option maxHeartbeats 3200000 in
theorem csimp48 (v : Value) (a k xo xa xb xk : Int) (n : Bool) (h1 : xo ≠ 1) (w : World) (hA : AtIs w v a xo xa xb xk) (o' a' k' kn : Int) (n' : Bool)
    (hR : ∀ w1, Below w.heap.size w w1 → Calls Try.prog 49 #[quV 48 a k n] w1 fun e w' => e = quE o' a' k' n' kn ∧ Below w1.heap.size w1 w') :
    Calls Try.prog 39 #[quV 48 a k n, v] w fun e w' => e = quE o' a' k' n' kn ∧ Below w.heap.size w w' := by
  have HA := hid hA
  have HR := hid hR
  have c1 : (xo == 1) = false := by simp [h1]
  clear hA hR h1
  go_enter Try.func39, Try.ntmps39
  go_wp2_with (first
    | (go_at_call 17; refine (HA.out _ (al_al w _ _)).mono ?_; clear HA; rintro e w1 ⟨rfl, hb⟩; have HQ := hid (SpSt.new 48 a k n xo xa xb xk hb); clear hb; obtain ⟨q0, q1, q2, q3, qf⟩ := HQ.out.q.cells; obtain ⟨x0, x1, x2, x3, xf⟩ := HQ.out.x.cells)
    | (go_at_call 49; refine (HR.out _ HQ.out.bl).mono ?_; clear HR; rintro e w2 ⟨he, hb⟩; unfold quE at he; subst he; have HQ2 := hid (HQ.out.below hb); clear hb HQ q0 q1 q2 q3 qf x0 x1 x2 x3 xf; obtain ⟨q0, q1, q2, q3, qf⟩ := HQ2.out.q.cells; obtain ⟨t0, t1, t2, t3, tf⟩ := HQ2.out.z.cells))
  have hZ := (HQ2.out.putz o' a' k' n').1
  have hY := (HQ2.out.putz o' a' k' n').2
  unfold qput at hZ hY
  refine bodyPost_ret (results_qu2 (p := 4) (u := 5) rfl _ _ rfl hZ) rfl ?_
  exact ⟨rfl, hY⟩
set_option maxHeartbeats 3200000 in
theorem csimp64 (v : Value) (a k xo xa xb xk : Int) (n : Bool) (h1 : xo ≠ 1) (w : World) (hA : AtIs w v a xo xa xb xk) (o' a' k' kn : Int) (n' : Bool)
    (hR : ∀ w1, Below w.heap.size w w1 → Calls Try.prog 50 #[quV 64 a k n, v, .agg #[.int .i64 xo, .int .i64 xa, .int .i64 xb, .int .u32 xk]] w1 fun e w' => e = quE o' a' k' n' kn ∧ Below w1.heap.size w1 w') :
    Calls Try.prog 39 #[quV 64 a k n, v] w fun e w' => e = quE o' a' k' n' kn ∧ Below w.heap.size w w' := by
  have HA := hid hA
  have HR := hid hR
  have c1 : (xo == 1) = false := by simp [h1]
  clear hA hR h1
  go_enter Try.func39, Try.ntmps39
  go_wp2_with (first
    | (go_at_call 17; refine (HA.out _ (al_al w _ _)).mono ?_; clear HA; rintro e w1 ⟨rfl, hb⟩; have HQ := hid (SpSt.new 64 a k n xo xa xb xk hb); clear hb; obtain ⟨q0, q1, q2, q3, qf⟩ := HQ.out.q.cells; obtain ⟨x0, x1, x2, x3, xf⟩ := HQ.out.x.cells)
    | (go_at_call 50; refine (HR.out _ HQ.out.bl).mono ?_; clear HR; rintro e w2 ⟨he, hb⟩; unfold quE at he; subst he; have HQ2 := hid (HQ.out.below hb); clear hb HQ q0 q1 q2 q3 qf x0 x1 x2 x3 xf; obtain ⟨q0, q1, q2, q3, qf⟩ := HQ2.out.q.cells; obtain ⟨t0, t1, t2, t3, tf⟩ := HQ2.out.z.cells))
  have hZ := (HQ2.out.putz o' a' k' n').1
  have hY := (HQ2.out.putz o' a' k' n').2
  unfold qput at hZ hY
  refine bodyPost_ret (results_qu2 (p := 4) (u := 5) rfl _ _ rfl hZ) rfl ?_
  exact ⟨rfl, hY⟩
set_option maxHeartbeats 3200000 in
theorem csimp16 (v : Value) (a k xo xa xb xk : Int) (n : Bool) (h1 : xo ≠ 1) (w : World) (hA : AtIs w v a xo xa xb xk) (o' a' k' kn : Int) (n' : Bool)
    (hR : ∀ w1, Below w.heap.size w w1 → Calls Try.prog 51 #[quV 16 a k n, v, .agg #[.int .i64 xo, .int .i64 xa, .int .i64 xb, .int .u32 xk]] w1 fun e w' => e = quE o' a' k' n' kn ∧ Below w1.heap.size w1 w') :
    Calls Try.prog 39 #[quV 16 a k n, v] w fun e w' => e = quE o' a' k' n' kn ∧ Below w.heap.size w w' := by
  have HA := hid hA
  have HR := hid hR
  have c1 : (xo == 1) = false := by simp [h1]
  clear hA hR h1
  go_enter Try.func39, Try.ntmps39
  go_wp2_with (first
    | (go_at_call 17; refine (HA.out _ (al_al w _ _)).mono ?_; clear HA; rintro e w1 ⟨rfl, hb⟩; have HQ := hid (SpSt.new 16 a k n xo xa xb xk hb); clear hb; obtain ⟨q0, q1, q2, q3, qf⟩ := HQ.out.q.cells; obtain ⟨x0, x1, x2, x3, xf⟩ := HQ.out.x.cells)
    | (go_at_call 51; refine (HR.out _ HQ.out.bl).mono ?_; clear HR; rintro e w2 ⟨he, hb⟩; unfold quE at he; subst he; have HQ2 := hid (HQ.out.below hb); clear hb HQ q0 q1 q2 q3 qf x0 x1 x2 x3 xf; obtain ⟨q0, q1, q2, q3, qf⟩ := HQ2.out.q.cells; obtain ⟨t0, t1, t2, t3, tf⟩ := HQ2.out.z.cells))
  have hZ := (HQ2.out.putz o' a' k' n').1
  have hY := (HQ2.out.putz o' a' k' n').2
  unfold qput at hZ hY
  refine bodyPost_ret (results_qu2 (p := 4) (u := 5) rfl _ _ rfl hZ) rfl ?_
  exact ⟨rfl, hY⟩
end Go.Proofs.Ytkeigicobcjleab.TB
namespace Go.Proofs.Ytkeigicobcjleab.TB
open Go.ChangeShapes Go.WideShapes Go.ChangeAt Go.RowKit
open Go.Sort hiding Below
set_option linter.unusedVariables false
set_option maxRecDepth 100000
/-- what a rule tells of a question: it is known; none fits; or another question, that comes to the same and is nearer to its end -/
def StepQ (L : List TM.N) (op : Int) (a : Nat) (k : Int) (n : Bool) (o' a' k' : Int) (n' : Bool) (kn : Int) : Prop :=
  (∃ b m, kn = (((TM.knB b m).1 : Nat) : Int) ∧ TM.ofQ op (TM.tr L a) k n = TM.knB b m) ∨
  (kn = 1 ∧ o' = op ∧ a' = (a : Int) ∧ k' = k ∧ n' = n ∧ TM.ofQ op (TM.tr L a) k n = TM.opA op (TM.tr L a) (.num k) n) ∨
  (kn = 1 ∧ ∃ x : Nat, a' = (x : Int) ∧ x < L.length ∧ TM.isQ o' = true ∧ TM.W32 k' ∧ TM.ofQ o' (TM.tr L x) k' n' = TM.ofQ op (TM.tr L a) k n ∧ TM.rankQ o' x < TM.rankQ op a)
theorem csimpler (F : Nat → Prop) (v : Value) (L : List TM.N) (h1 : TM.Row L) (h3 : ∀ x ∈ L, TM.okN x) (op : Int) (ho : TM.isQ op = true) (a : Nat) (ha : a < L.length) (k : Int) (hk : TM.W32 k) (n : Bool) :
    ∃ o' a' k' n' kn, StepQ L op a k n o' a' k' n' kn ∧ ∀ w, Pl w F v L → Calls Try.prog 39 #[quV op a k n, v] w fun e w' => e = quE o' a' k' n' kn ∧ Below w.heap.size w w' := by
  have hx0 := TM.nat0_eq ha
  have hmo := TM.may_ok (h1.2 a ha)
  have hnm := TM.nm_row h1 ha
  have hcc := TM.cut_chn h1 ha
  have hcl := @TM.cut_lt L h1 h3 a ha
  have hot := TM.tr_okT h1 h3 a ha
  obtain ⟨x, hx⟩ : ∃ x, L[a] = x := ⟨_, rfl⟩
  rw [hx] at hx0
  unfold TM.cutN at hcc hcl
  rw [hx0] at hmo hnm hcc hcl
  obtain ⟨xo, xa, xb, xk⟩ := x
  simp only at hmo hnm hcc hcl
  have hA : ∀ w, Pl w F v L → AtIs w v a xo xa xb xk := fun w hP w1 hb => pl_has w1 F v L a (pl_belowA hP hb) ha xo xa xb xk hx
  by_cases c1 : xo = 1
  · subst c1
    rw [if_pos rfl] at hnm
    exact ⟨op, a, k, n, _, .inl ⟨_, _, rfl, TM.ofQ_num hnm op k n⟩, fun w hP => csimp0 v op a k xa xb xk n w (hA w hP)⟩
  rw [if_neg c1] at hnm
  -- cutTo, of this node
  have hC : ∃ j c, (∀ w, Pl w F v L → CutIs w v xo xa xb xk j c) ∧ (c = true → ∃ y : Nat, xa = (y : Int) ∧ y < a ∧ TM.W32 j ∧ TM.chn 80 (TM.tr L a) = some (TM.tr L y, j)) ∧ (c = false → TM.chn 80 (TM.tr L a) = none) := by
    by_cases c2 : xo = 336
    · subst c2
      have hab : (0 ≤ xa ∧ xa < a) ∧ 0 ≤ xb ∧ xb < a := by rcases hmo with h | h | h | h <;> omega
      obtain ⟨b1, rfl⟩ : ∃ b1 : Nat, xb = b1 := ⟨xb.toNat, by omega⟩
      obtain ⟨a1, rfl⟩ : ∃ a1 : Nat, xa = a1 := ⟨xa.toNat, by omega⟩
      rw [Int.toNat_natCast, Int.toNat_natCast] at hcc hcl
      have hb1 : b1 < L.length := by omega
      rw [TM.nat0_eq hb1] at hcc hcl
      obtain ⟨y, hy⟩ : ∃ y, L[b1] = y := ⟨_, rfl⟩
      rw [hy] at hcc hcl
      obtain ⟨yo, ya, yb, yk⟩ := y
      simp only at hcc hcl
      refine ⟨yk, yo == 1, fun w hP w1 hb => ccut_at F v L a1 xk b1 hb1 yo ya yb yk hy w1 (pl_belowA hP hb), fun e => ?_, fun e => ?_⟩
      · have e1 : yo = 1 := by simpa using e
        rw [if_pos (by simpa using e1)] at hcc
        have := hcl (x := a1) (j := yk) (if_pos (by simpa using e1))
        exact ⟨a1, rfl, this.1, this.2, hcc⟩
      · rw [if_neg (by simpa using e)] at hcc
        exact hcc
    · rw [if_neg (fun g => c2 g.1)] at hcc
      exact ⟨0, false, fun w hP w1 hb => ccut_no v xo xa xb xk c2 w1, fun e => (by cases e), fun _ => hcc⟩
  obtain ⟨j, c, hC, hct, hcf⟩ := hC
  rcases TM.isQ_iff.1 ho with rfl | rfl | rfl | rfl
  · -- alike
    cases c with
    | false =>
      have hch := hcf rfl
      refine ⟨16, a, k, n, 1, .inr (.inl ⟨rfl, rfl, rfl, rfl, rfl, ?_⟩), fun w hP => csimp16 v a k xo xa xb xk n c1 w (hA w hP) _ _ _ _ _ (fun w1 hb => ceql1 v a k j n xo xa xb xk w1 (hC w1 (pl_belowA hP hb)))⟩
      rw [TM.step16 hnm, hch]
    | true =>
      obtain ⟨y, rfl, hy, hj, hch⟩ := hct rfl
      have hcb := TM.cut_bits hj hk
      by_cases d1 : TM.told 80 j k ≠ k
      · rw [decide_eq_true d1] at hcb
        refine ⟨16, a, k, n, _, .inl ⟨false, n, rfl, ?_⟩, fun w hP => csimp16 v a k xo y xb xk n c1 w (hA w hP) _ _ _ _ _ (fun w1 hb => ceql2 v a k j n xo y xb xk w1 (hC w1 (pl_belowA hP hb)) hcb)⟩
        rw [TM.step16 hnm, hch]
        simp only
        rw [if_pos d1]
      · rw [decide_eq_false d1] at hcb
        by_cases d2 : k = 0
        · subst d2
          refine ⟨64, y, j, !n, 1, .inr (.inr ⟨rfl, y, rfl, by omega, by decide, hj, ?_, ?_⟩), fun w hP => csimp16 v a 0 xo y xb xk n c1 w (hA w hP) _ _ _ _ _ (fun w1 hb => ceql4 v a j n xo y xb xk w1 (hC w1 (pl_belowA hP hb)) hcb)⟩
          · rw [TM.step16 hnm, hch]
            simp only
            rw [if_neg d1]; simp
          · unfold TM.rankQ; simp; omega
        · refine ⟨16, a, k, n, 1, .inr (.inl ⟨rfl, rfl, rfl, rfl, rfl, ?_⟩), fun w hP => csimp16 v a k xo y xb xk n c1 w (hA w hP) _ _ _ _ _ (fun w1 hb => ceql3 v a k j n xo y xb xk w1 (hC w1 (pl_belowA hP hb)) hcb d2)⟩
          rw [TM.step16 hnm, hch]
          simp only
          rw [if_neg d1, if_neg d2]
  · -- above
    by_cases d1 : k = 4294967295
    · subst d1
      refine ⟨32, a, 4294967295, n, _, .inl ⟨false, n, rfl, ?_⟩, fun w hP => csimp32 v a 4294967295 xo xa xb xk n c1 w (hA w hP) _ _ _ _ _ (fun w1 _ => cabove1 a n w1)⟩
      rw [TM.step32 hnm, if_pos rfl]
    by_cases d2 : k = 0
    · subst d2
      refine ⟨16, a, 0, !n, 1, .inr (.inr ⟨rfl, a, rfl, ha, by decide, hk, ?_, ?_⟩), fun w hP => csimp32 v a 0 xo xa xb xk n c1 w (hA w hP) _ _ _ _ _ (fun w1 _ => cabove2 a n w1)⟩
      · rw [TM.step32 hnm, if_neg d1, if_pos rfl]
      · unfold TM.rankQ; simp
    · refine ⟨32, a, k, n, 1, .inr (.inl ⟨rfl, rfl, rfl, rfl, rfl, ?_⟩), fun w hP => csimp32 v a k xo xa xb xk n c1 w (hA w hP) _ _ _ _ _ (fun w1 _ => cabove3 a k n d1 d2 w1)⟩
      rw [TM.step32 hnm, if_neg d1, if_neg d2]
  · -- at least
    by_cases d2 : k = 0
    · subst d2
      refine ⟨48, a, 0, n, _, .inl ⟨true, n, rfl, ?_⟩, fun w hP => csimp48 v a 0 xo xa xb xk n c1 w (hA w hP) _ _ _ _ _ (fun w1 _ => cleast1 a n w1)⟩
      rw [TM.step48 hnm, if_pos rfl]
    · refine ⟨32, a, k - 1, n, 1, .inr (.inr ⟨rfl, a, rfl, ha, by decide, ⟨by have := hk.1; omega, by have := hk.2; omega⟩, ?_, ?_⟩), fun w hP => csimp48 v a k xo xa xb xk n c1 w (hA w hP) _ _ _ _ _ (fun w1 _ => cleast2 a k n hk d2 w1)⟩
      · rw [TM.step48 hnm, if_neg d2]
      · unfold TM.rankQ; simp
  · -- shared
    by_cases d2 : k = 0
    · subst d2
      refine ⟨64, a, 0, n, _, .inl ⟨false, n, rfl, ?_⟩, fun w hP => csimp64 v a 0 xo xa xb xk n c1 w (hA w hP) _ _ _ _ _ (fun w1 _ => cshr1 v a n xo xa xb xk w1)⟩
      rw [TM.step64 hot hnm, if_pos rfl]
    by_cases d1 : k = 4294967295
    · subst d1
      refine ⟨16, a, 0, !n, 1, .inr (.inr ⟨rfl, a, rfl, ha, by decide, ⟨by omega, by omega⟩, ?_, ?_⟩), fun w hP => csimp64 v a 4294967295 xo xa xb xk n c1 w (hA w hP) _ _ _ _ _ (fun w1 _ => cshr2 v a n xo xa xb xk w1)⟩
      · rw [TM.step64 hot hnm, if_neg d2, if_pos rfl]
      · unfold TM.rankQ; simp
    · cases c with
      | false =>
        have hch := hcf rfl
        refine ⟨64, a, k, n, 1, .inr (.inl ⟨rfl, rfl, rfl, rfl, rfl, ?_⟩), fun w hP => csimp64 v a k xo xa xb xk n c1 w (hA w hP) _ _ _ _ _ (fun w1 hb => cshr4 v a k j n d1 d2 xo xa xb xk w1 (hC w1 (pl_belowA hP hb)))⟩
        rw [TM.step64 hot hnm, if_neg d2, if_neg d1, hch]
      | true =>
        obtain ⟨y, rfl, hy, hj, hch⟩ := hct rfl
        refine ⟨64, y, bits .and .u32 j k, n, 1, .inr (.inr ⟨rfl, y, rfl, by omega, by decide, ?_, ?_, ?_⟩), fun w hP => csimp64 v a k xo y xb xk n c1 w (hA w hP) _ _ _ _ _ (fun w1 hb => cshr3 v a k j n d1 d2 xo y xb xk w1 (hC w1 (pl_belowA hP hb)))⟩
        · rw [TM.told_bits]; exact TM.told_w32 _ _ _
        · rw [TM.step64 hot hnm, if_neg d2, if_neg d1, hch, TM.told_bits]
        · unfold TM.rankQ; simp; omega
end Go.Proofs.Ytkeigicobcjleab.TB
