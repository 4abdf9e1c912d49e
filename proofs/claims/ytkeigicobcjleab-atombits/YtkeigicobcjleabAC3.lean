/-
  The program's atom, ofNumber, ofOne of layer 13, as walks over the Go text.
-/
import Derived.Test.YtkeigicobcjleabAC2
namespace Go.Proofs.Ytkeigicobcjleab.TB
open Go.ChangeShapes Go.WideShapes Go.ChangeAt Go.RowKit
open Go.Sort hiding Below
set_option linter.unusedVariables false
set_option maxRecDepth 100000
theorem results_atomQ {fn : Func} {p u x : Tmp} (h : fn.results = #[.cell p 31, .tmp u, .tmp x]) (tmps : Array Value) (w : World) {b : Nat} {o a c : Int} {n : Bool} (hp : tmps[p]?.getD undef = .pointer (some ⟨b, 0, none⟩)) (hA : AAt w b o a c n) :
    (results fn tmps).run Try.prog w = .ok (.tuple #[.agg #[.int .i64 o, .int .i64 a, .int .i64 c, .bool n], tmps[u]?.getD undef, tmps[x]?.getD undef]) w := by
  obtain ⟨a0, a1, a2, a3, a4⟩ := hA.cells
  simp [results, h, hp, go_sem, a0, a1, a2, a3]
theorem AtomAt.mono {Pl : PoolIs} {W : World} {F : Nat → Prop} {v : Value} {L : List TM.N} {t : TM.At} {B B2 : Nat} {e : Ending} {w' : World} (h : AtomAt Pl W F v L t B e w') (hB : B ≤ B2) : AtomAt Pl W F v L t B2 e w' := by
  obtain ⟨F', L', o, p, q, n, h1, h2, h3, h4⟩ := h
  exact ⟨F', L', o, p, q, n, h1, h2, by omega, h4⟩
theorem AtomAt.below {Pl : PoolIs} {W W1 : World} {F : Nat → Prop} {v : Value} {L : List TM.N} {t : TM.At} {B : Nat} {e : Ending} {w' : World} (hb : Below W.heap.size W W1) (h : AtomAt Pl W1 F v L t B e w') : AtomAt Pl W F v L t B e w' := by
  obtain ⟨F', L', o, p, q, n, h1, h2, h3, h4, h5, h6⟩ := h
  exact ⟨F', L', o, p, q, n, h1, h2, h3, h4, (Fr.of_below hb).comp h5 (fun b h => .inl h), fun b hb' => by
    rcases h6 b hb' with h | h
    · exact .inl h
    · exact .inr (Nat.le_trans hb.size h)⟩
/-- what is known -/
theorem AtomAt.kn {W W1 : World} {F : Nat → Prop} {v : Value} {L : List TM.N} (h : Pl W1 F v L) (h1 : TM.Row L) (h2 : TM.Once L) (h3 : ∀ x ∈ L, TM.okN x) (b m : Bool) (B : Nat) (hb : Below W.heap.size W W1) :
    AtomAt Pl W F v L (TM.knB b m) B (.returned (.tuple #[.agg #[.int .i64 0, .int .i64 0, .int .i64 0, .bool false], .int .i64 (((TM.knB b m).1 : Nat) : Int), .int .i64 0])) W1 :=
  ⟨F, L, 0, 0, 0, false, rfl, TM.MadeA.known h1 h2 h3 b m, by omega, h, Fr.of_below hb, fun b h => .inl h⟩
/-- what a call made, put into a box that was made ahead -/
theorem AtomAt.box {W W1 w' : World} {F : Nat → Prop} {v : Value} {L : List TM.N} {t : TM.At} {B : Nat} {e : Ending} {b : Nat} (hB : Below W.heap.size W W1) (hb : W.heap.size ≤ b) (hb1 : b < W1.heap.size) (hF : ∀ x, F x → x < W.heap.size)
    (h : AtomAt Pl W1 F v L t B e w') (o p q : Int) (n : Bool) : AtomAt Pl W F v L t B e (aput w' b o p q n) := by
  obtain ⟨F', L', o', p', q', k', h1, h2, h3, h4, h5, h6⟩ := h
  have hf := aput_fr w' b o p q n
  have hns : ∀ x, F' x → ¬ x = b := fun x hx e => by
    rcases h6 x hx with h | h
    · have := hF x h; omega
    · omega
  refine ⟨F', L', o', p', q', k', h1, h2, h3, pl_keep _ _ F' v L' h4 hf.size (fun x hx => ?_), ?_, fun x hx => ?_⟩
  · rcases Nat.lt_or_ge x w'.heap.size with h | h
    · exact hf.block x h (hns x hx)
    · exact absurd (pl_lt _ F' v L' h4 x hx) (by omega)
  · have h5' := (Fr.of_below hB).comp h5 (fun b h => .inl h)
    exact ⟨hf.os.trans h5'.os, hf.tape.trans h5'.tape, hf.output.trans h5'.output, Nat.le_trans h5'.size hf.size, fun k hk hne => (hf.block k (Nat.lt_of_lt_of_le hk h5'.size) (by omega)).trans (h5'.block k hk hne)⟩
  · rcases h6 x hx with h | h
    · exact .inl h
    · exact .inr (Nat.le_trans hB.size h)
/-- an atom's box in a world that a call on the pool left -/
theorem AAt.fr0 {W W' : World} {b : Nat} {o p q : Int} {n : Bool} {F : Nat → Prop} (h : AAt W b o p q n) (hg : Fr W W' F) (hne : ¬ F b) : AAt W' b o p q n := h.of_block (hg.block b h.lt hne)
theorem QAt.fr0 {W W' : World} {b : Nat} {o a k : Int} {n : Bool} {F : Nat → Prop} (h : QAt W b o a k n) (hg : Fr W W' F) (hne : ¬ F b) : QAt W' b o a k n := h.of_block (hg.block b h.lt hne)
theorem qa_new (w : World) (o a k : Int) (n : Bool) : AAt ((w.alloc (.cells #[.int .i64 o, .int .i64 a, .int .u32 k, .bool n] 69)).alloc (.cells #[.int .i64 0, .int .i64 0, .int .i64 0, .bool false] 31)) (w.heap.size + 1) 0 0 0 false := by
  have h := AAt.new (w.alloc (.cells #[.int .i64 o, .int .i64 a, .int .u32 k, .bool n] 69)) 0 0 0 false
  rwa [show (w.alloc (.cells #[.int .i64 o, .int .i64 a, .int .u32 k, .bool n] 69)).heap.size = w.heap.size + 1 by simp] at h

set_option maxHeartbeats 3200000 in
theorem cqatom (W : World) (F : Nat → Prop) (v : Value) (L : List TM.N) (hP : Pl W F v L) (h1 : TM.Row L) (h2 : TM.Once L) (h3 : ∀ x ∈ L, TM.okN x) (hn : L.length ≤ 20000) (op : Int) (a : Nat) (ha : a < L.length) (k : Int) (hk : TM.W32 k) (n : Bool) :
    Calls Try.prog 40 #[quV op a k n, v] W fun e w' => AtomAt Pl W F v L (TM.opA op (TM.tr L a) (.num k) n) 1 e w' := by
  have HB0 := hid (al_al W (.cells #[.int .i64 op, .int .i64 a, .int .u32 k, .bool n] 69) (.cells #[.int .i64 0, .int .i64 0, .int .i64 0, .bool false] 31))
  have HQ0 := hid ((QAt.new W op a k n).alloc (.cells #[.int .i64 0, .int .i64 0, .int .i64 0, .bool false] 31))
  have HA0 := hid (qa_new W op a k n)
  have HN := hid (sb_ok _ F v L k (pl_belowA hP HB0.out) h1 h2 h3 hn hk)
  have HF := hid (show ∀ x, F x → x < W.heap.size from fun x hx => pl_lt W F v L hP x hx)
  have HH := hid ha
  clear hP h1 h2 h3 hn ha
  go_enter Try.func40, Try.ntmps40
  go_wp2_with (go_at_call 16; refine HN.out.mono ?_; clear HN; rintro e w1 ⟨F1, L1, p1, rfl, hM, hl, hP1, hf, hF1⟩; have HQ1 := hid (HQ0.out.fr0 hf (fun g => by have := HF.out _ g; omega)); have HA1 := hid (HA0.out.fr0 hf (fun g => by have := HF.out _ g; omega)); have HZ := hid (And.intro hM (And.intro hl (And.intro hP1 (And.intro hf hF1)))); clear hM hl hP1 hf hF1 HQ0 HA0; obtain ⟨q0, q1, q2, q3, qf⟩ := HQ1.out.cells; obtain ⟨s0, s1, s2, s3, sf⟩ := HA1.out.cells)
  have hX := AtomAt.box HB0.out (Nat.le_succ _) (by simp) HF.out (show AtomAt Pl _ F v L (TM.opA op (TM.tr L a) (.num k) n) 1 _ w1 from ⟨F1, L1, op, a, p1, n, rfl, TM.MadeA.opn HZ.out.1 HH.out op n, HZ.out.2.1, HZ.out.2.2.1, HZ.out.2.2.2.1, HZ.out.2.2.2.2⟩) op a p1 n
  have hZ := HA1.out.put op a p1 n
  unfold aput at hZ hX
  refine bodyPost_ret (results_atomQ (p := 4) (u := 5) (x := 6) rfl _ _ rfl hZ) rfl ?_
  exact hX
end Go.Proofs.Ytkeigicobcjleab.TB
namespace Go.Proofs.Ytkeigicobcjleab.TB
open Go.ChangeShapes Go.WideShapes Go.ChangeAt Go.RowKit
open Go.Sort hiding Below
set_option linter.unusedVariables false
set_option maxRecDepth 100000

theorem guardQ (op : BinOp) (x y : Operand) (xs ys : Array Value) (W : World) : (eqGuard op 69 x y (.agg xs) (.agg ys)).run Try.prog W = .ok () W :=
  run_eqGuard_agg W op 69 x y xs ys (by kernel_rfl)
theorem heldQ : Try.prog.stoodInHeld 69 = false := by kernel_rfl
theorem fieldsQ : Try.prog.underlying 69 = some (.struct (Try.prog.fieldsOf 69)) := by kernel_rfl
theorem eqQ (o1 a1 b1 : Int) (k1 : Bool) (o2 a2 b2 : Int) (k2 : Bool) (d : Nat) (W : World) :
    (Op.equalIn (d + 2) 69 (.agg #[.int .i64 o1, .int .i64 a1, .int .u32 b1, .bool k1]) (.agg #[.int .i64 o2, .int .i64 a2, .int .u32 b2, .bool k2])).run Try.prog W = .ok (decide ((o1, a1, b1, k1) = (o2, a2, b2, k2))) W := by
  rw [run_equalIn_struct W (d + 1) 69 _ _ fieldsQ heldQ]
  have hu := Try.underlying69
  rw [fieldsQ] at hu
  simp only [Option.some.injEq, TypeDesc.struct.injEq] at hu
  rw [hu]
  have c3 : Try.prog.cellsOf 3 = 1 := by kernel_rfl
  have c25 : Try.prog.cellsOf 22 = 1 := by kernel_rfl
  have c37 : Try.prog.cellsOf 4 = 1 := by kernel_rfl
  simp [Op.eqFields, part, go_sem, Try.underlying3, Try.underlying4, Try.underlying22]
  repeat' split
  all_goals simp_all
theorem eqlQ (o1 a1 b1 : Int) (k1 : Bool) (o2 a2 b2 : Int) (k2 : Bool) (W : World) :
    (binOp .eql 69 (quV o1 a1 b1 k1) (quV o2 a2 b2 k2)).run Try.prog W = .ok (.bool (decide ((o1, a1, b1, k1) = (o2, a2, b2, k2)))) W := by
  rw [run_eql_struct W 69, eqQ o1 a1 b1 k1 o2 a2 b2 k2 9998 W]; rfl

/-- how far a question's box is from its end -/
def rdI (W : World) (b j : Nat) : Int := match W.cell? ⟨b, j, none⟩ with
  | some (.int _ i) => i
  | _ => 0
def mzQ (W : World) (b : Nat) : Nat := TM.rankQ (rdI W b 0) (rdI W b 1).toNat
theorem mzQ_at {W : World} {b : Nat} {o k : Int} {a : Nat} {n : Bool} (h : QAt W b o a k n) : mzQ W b = TM.rankQ o a := by
  unfold mzQ rdI
  rw [h.cells.1, h.cells.2.1]; simp
/-- the loop's state -/
structure OfSt (w W : World) (o : Int) (a : Int) (k : Int) (n : Bool) : Prop where
  q : QAt W w.heap.size o a k n
  z : AAt W (w.heap.size + 1) 0 0 0 false
  bl : Below w.heap.size w W
theorem OfSt.new (w : World) (o a k : Int) (n : Bool) : OfSt w ((w.alloc (.cells #[.int .i64 o, .int .i64 a, .int .u32 k, .bool n] 69)).alloc (.cells #[.int .i64 0, .int .i64 0, .int .i64 0, .bool false] 31)) o a k n :=
  ⟨(QAt.new w o a k n).alloc _, qa_new w o a k n, al_al w _ _⟩
theorem OfSt.below {w W W' : World} {o a k : Int} {n : Bool} (h : OfSt w W o a k n) (hb : Below W.heap.size W W') : OfSt w W' o a k n := ⟨h.q.below hb, h.z.below hb, h.bl.trans (hb.mono h.bl.size)⟩
theorem AAt.offq {W : World} {b b' j : Nat} {o p q : Int} {n : Bool} {v : Value} (h : AAt W b o p q n) (hne : b ≠ b') : AAt (W.setCell ⟨b', j, none⟩ v) b o p q n := by
  unfold AAt at *
  rw [Below.heap_setCell _ _ _ _ hne]; exact h
theorem OfSt.put {w W : World} {o a k : Int} {n : Bool} (h : OfSt w W o a k n) (o' a' k' : Int) (n' : Bool) : OfSt w (qput W w.heap.size o' a' k' n') o' a' k' n' :=
  ⟨h.q.put o' a' k' n', (((h.z.offq (by omega)).offq (by omega)).offq (by omega)).offq (by omega), qput_below h.bl (Nat.le_refl _)⟩

theorem aput_belowQ {w W : World} {b : Nat} {o p q : Int} {n : Bool} (h : Below w.heap.size w W) (hb : w.heap.size ≤ b) : Below w.heap.size w (aput W b o p q n) :=
  (((h.setCell hb _).setCell hb _).setCell hb _).setCell hb _
theorem OfSt.putz {w W : World} {o a k : Int} {n : Bool} (h : OfSt w W o a k n) (o' p' q' : Int) (n' : Bool) :
    AAt (aput W (w.heap.size + 1) o' p' q' n') (w.heap.size + 1) o' p' q' n' ∧ Below w.heap.size w (aput W (w.heap.size + 1) o' p' q' n') := ⟨h.z.put o' p' q' n', aput_belowQ h.bl (Nat.le_succ _)⟩
set_option maxHeartbeats 6400000 in
theorem cofNumber (W : World) (F : Nat → Prop) (v : Value) (L : List TM.N) (hP : Pl W F v L) (h1 : TM.Row L) (h2 : TM.Once L) (h3 : ∀ x ∈ L, TM.okN x) (hn : L.length ≤ 20000) (op : Int) (ho : TM.isQ op = true) (a : Nat) (ha : a < L.length) (k : Int) (hk : TM.W32 k) (n : Bool) :
    Calls Try.prog 26 #[v, quV op a k n] W fun e w' => AtomAt Pl W F v L (TM.ofQ op (TM.tr L a) k n) 1 e w' := by
  obtain ⟨T, hT⟩ : ∃ T, TM.ofQ op (TM.tr L a) k n = T := ⟨_, rfl⟩
  rw [hT]
  have HI := hid (And.intro (OfSt.new W op a k n) (And.intro ho (And.intro ha (And.intro hk hT))))
  have HH := hid (And.intro hP (And.intro h1 (And.intro h2 (And.intro h3 hn))))
  have HF := hid (show ∀ x, F x → x < W.heap.size from fun x hx => pl_lt W F v L hP x hx)
  clear hP h1 h2 h3 hn ho ha hk hT
  go_enter Try.func26, Try.ntmps26
  go_wp2
  go_loopw [] (fun wr => ∃ (o : Int) (a' : Nat) (k' : Int) (n' : Bool), Hid (OfSt W wr o a' k' n' ∧ TM.isQ o = true ∧ a' < L.length ∧ TM.W32 k' ∧ TM.ofQ o (TM.tr L a') k' n' = T)) (fun wr => mzQ wr W.heap.size)
  case atStart => exact ⟨op, a, k, n, HI.out⟩
  case round =>
    clear HI
    obtain ⟨o, a', k', n', HR⟩ := hrel
    have HP := hid (show Pl wr F v L from pl_belowA HH.out.1 HR.out.1.bl)
    have HM := hid (mzQ_at HR.out.1.q)
    obtain ⟨o2, a2, k2, n2, kn, hst, hS⟩ := csimpler F v L HH.out.2.1 HH.out.2.2.2.1 o HR.out.2.1 a' HR.out.2.2.1 k' HR.out.2.2.2.1 n'
    have HS := hid (hS wr HP.out)
    clear hS
    obtain ⟨q0, q1, q2, q3, qf⟩ := HR.out.1.q.cells
    rcases hst with ⟨b, m, rfl, he⟩ | ⟨rfl, rfl, rfl, rfl, rfl, he⟩ | ⟨rfl, x, rfl, hx, hq, hk2, he, hrk⟩
    · have hne : ((((TM.knB b m).1 : Nat) : Int) != 1) = true := by unfold TM.knB; cases b <;> cases m <;> rfl
      have HE := hid (show T = TM.knB b m from by rw [← HR.out.2.2.2.2]; exact he)
      clear he
      go_wp2_with (go_at_call 39; refine HS.out.mono ?_; clear HS; rintro e w1 ⟨he, hb⟩; unfold quE at he; subst he; have HO := hid ((HR.out.1.below hb).below (al w1 (.cells #[.int .i64 o2, .int .i64 a2, .int .u32 k2, .bool n2] 69))); clear hb q0 q1 q2 q3 qf HR HP HM; obtain ⟨s0, s1, s2, s3, sf⟩ := HO.out.z.cells)
      have hZ := (HO.out.putz 0 0 0 false).1
      have hY := (HO.out.putz 0 0 0 false).2
      rw [HE.out]
      have hX := AtomAt.kn (pl_belowA HH.out.1 hY) HH.out.2.1 HH.out.2.2.1 HH.out.2.2.2.1 b m 1 hY
      unfold aput at hZ hY hX
      refine bodyPost_ret (results_atomQ (p := 4) (u := 5) (x := 6) rfl _ _ rfl hZ) rfl ?_
      exact hX
    · have HE := hid (show T = TM.opA o2 (TM.tr L a') (.num k2) n2 from by rw [← HR.out.2.2.2.2]; exact he)
      have HG := hid (And.intro HR.out.2.2.1 HR.out.2.2.2.1)
      have hgd := fun W => guardQ .eql (.tmp 19) (.tmp 20) #[.int .i64 o2, .int .i64 a', .int .u32 k2, .bool n2] #[.int .i64 o2, .int .i64 a', .int .u32 k2, .bool n2] W
      have heq := fun W => eqlQ o2 a' k2 n2 o2 a' k2 n2 W
      simp only [decide_true] at heq
      clear he
      go_wp2_with (first
        | (go_at_call 39; refine HS.out.mono ?_; clear HS; rintro e w1 ⟨he, hb⟩; unfold quE at he; subst he; have HO := hid ((HR.out.1.below hb).below (al w1 (.cells #[.int .i64 o2, .int .i64 a', .int .u32 k2, .bool n2] 69))); have HN := hid (QAt.new w1 o2 a' k2 n2); clear hb q0 q1 q2 q3 qf HR HP HM; obtain ⟨q0, q1, q2, q3, qf⟩ := HO.out.q.cells; obtain ⟨r0, r1, r2, r3, rf⟩ := HN.out.cells)
        | (go_at_call 40; refine (cqatom _ F v L (pl_belowA HH.out.1 HO.out.bl) HH.out.2.1 HH.out.2.2.1 HH.out.2.2.2.1 HH.out.2.2.2.2 o2 a' HG.out.1 k2 HG.out.2 n2).mono ?_; rintro e w4 ⟨F9, L9, o9, p9, q9, m9, rfl, hM9, hl9, hP9, hf9, hF9⟩; have HA1 := hid (HO.out.z.fr0 hf9 (fun g => by have := HF.out _ g; omega)); have HZ := hid (And.intro hM9 (And.intro hl9 (And.intro hP9 (And.intro hf9 hF9)))); clear hM9 hl9 hP9 hf9 hF9 q0 q1 q2 q3 qf r0 r1 r2 r3 rf; obtain ⟨s0, s1, s2, s3, sf⟩ := HA1.out.cells))
      have hX := AtomAt.box HO.out.bl (Nat.le_succ _) HO.out.z.lt HF.out (show AtomAt Pl _ F v L (TM.opA o2 (TM.tr L a') (.num k2) n2) 1 _ w4 from ⟨F9, L9, o9, p9, q9, m9, rfl, HZ.out⟩) o9 p9 q9 m9
      have hZ := HA1.out.put o9 p9 q9 m9
      rw [HE.out]
      unfold aput at hZ hX
      refine bodyPost_ret (results_atomQ (p := 4) (u := 5) (x := 6) rfl _ _ rfl hZ) rfl ?_
      exact hX
    · have hgd := fun W => guardQ .eql (.tmp 19) (.tmp 20) #[.int .i64 o2, .int .i64 x, .int .u32 k2, .bool n2] #[.int .i64 o, .int .i64 a', .int .u32 k', .bool n'] W
      have heq := fun W => eqlQ o2 x k2 n2 o a' k' n' W
      have hne : decide (((o2, (x : Int), k2, n2) : Int × Int × Int × Bool) = (o, (a' : Int), k', n')) = false := decide_eq_false (fun e => by
        simp only [Prod.mk.injEq] at e
        obtain ⟨e1, e2, _⟩ := e
        have e2 : x = a' := by omega
        rw [e1, e2] at hrk
        omega)
      simp only [hne] at heq
      clear hne
      have HE := hid (And.intro hq (And.intro hx (And.intro hk2 (And.intro (he.trans HR.out.2.2.2.2) hrk))))
      clear hx hq hk2 he hrk
      go_wp2_with (go_at_call 39; refine HS.out.mono ?_; clear HS; rintro e w1 ⟨he, hb⟩; unfold quE at he; subst he; have HO := hid ((HR.out.1.below hb).below (al w1 (.cells #[.int .i64 o2, .int .i64 x, .int .u32 k2, .bool n2] 69))); have HN := hid (QAt.new w1 o2 x k2 n2); clear hb q0 q1 q2 q3 qf HR HP; obtain ⟨q0, q1, q2, q3, qf⟩ := HO.out.q.cells; obtain ⟨r0, r1, r2, r3, rf⟩ := HN.out.cells)
      have HX := hid (HO.out.put o2 x k2 n2)
      have HM2 := hid (Nat.lt_of_le_of_lt (Nat.le_of_eq (mzQ_at HX.out.q)) (show TM.rankQ o2 x < mzQ wr W.heap.size from by rw [HM.out]; exact HE.out.2.2.2.2))
      unfold qput at HX HM2
      go_roundw
      case rel => exact ⟨o2, x, k2, n2, HX.out, HE.out.1, HE.out.2.1, HE.out.2.2.1, HE.out.2.2.2.1⟩
      case measure => exact HM2.out
end Go.Proofs.Ytkeigicobcjleab.TB
namespace Go.Proofs.Ytkeigicobcjleab.TB
open Go.ChangeShapes Go.WideShapes Go.ChangeAt Go.RowKit
open Go.Sort hiding Below
set_option linter.unusedVariables false
set_option maxRecDepth 100000
set_option maxHeartbeats 3200000 in
theorem cofOne (W : World) (F : Nat → Prop) (v : Value) (L : List TM.N) (hP : Pl W F v L) (h1 : TM.Row L) (h2 : TM.Once L) (h3 : ∀ x ∈ L, TM.okN x) (hn : L.length ≤ 20000) (op : Int) (ho : TM.isQ op = true) (a : Nat) (ha : a < L.length) (hnm : TM.nmT (TM.tr L a) = none) (n : Bool) :
    Calls Try.prog 28 #[v, .int .i64 op, .int .i64 a, .bool n] W fun e w' => AtomAt Pl W F v L (TM.mkA op (TM.tr L a) (TM.tr L a) n) 1 e w' := by
  rw [TM.mkA_one hnm]
  have HB0 := hid (al W (.cells #[.int .i64 0, .int .i64 0, .int .i64 0, .bool false] 31))
  have HA0 := hid (AAt.new W 0 0 0 false)
  have HF := hid (show ∀ x, F x → x < W.heap.size from fun x hx => pl_lt W F v L hP x hx)
  by_cases c1 : op = 64
  · subst c1
    rw [if_pos rfl]
    have HN := hid (cofNumber _ F v L (pl_belowA hP HB0.out) h1 h2 h3 hn 16 (by decide) a ha 0 ⟨by omega, by omega⟩ (!n))
    clear hP h1 h2 h3 hn ha ho hnm
    go_enter Try.func28, Try.ntmps28
    go_wp2_with (go_at_call 26; refine HN.out.mono ?_; clear HN; rintro e w4 ⟨F9, L9, o9, p9, q9, m9, rfl, hM9, hl9, hP9, hf9, hF9⟩; have HA1 := hid (HA0.out.fr0 hf9 (fun g => by have := HF.out _ g; omega)); have HZ := hid (And.intro hM9 (And.intro hl9 (And.intro hP9 (And.intro hf9 hF9)))); clear hM9 hl9 hP9 hf9 hF9; obtain ⟨s0, s1, s2, s3, sf⟩ := HA1.out.cells)
    have hX := AtomAt.box HB0.out (Nat.le_refl _) HA0.out.lt HF.out (show AtomAt Pl _ F v L (TM.ofQ 16 (TM.tr L a) 0 (!n)) 1 _ w4 from ⟨F9, L9, o9, p9, q9, m9, rfl, HZ.out⟩) o9 p9 q9 m9
    have hZ := HA1.out.put o9 p9 q9 m9
    unfold aput at hZ hX
    refine bodyPost_ret (results_atomQ (p := 8) (u := 9) (x := 10) rfl _ _ rfl hZ) rfl ?_
    exact hX
  · rw [if_neg c1]
    have c2 : (op == 64) = false := by simp [c1]
    have HS := hid (fun w => csettled (op != 32) n w)
    have HX := hid (AtomAt.kn (pl_belowA hP HB0.out) h1 h2 h3 (op != 32) n 1 HB0.out)
    clear hP h1 h2 h3 hn ha ho hnm c1
    go_enter Try.func28, Try.ntmps28
    go_wp2_with (go_at_call 41; refine (HS.out _).mono ?_; rintro e w1 ⟨rfl, rfl⟩)
    refine bodyPost_ret (results_atomQ (p := 8) (u := 9) (x := 10) rfl _ _ rfl HA0.out) rfl ?_
    exact HX.out

set_option maxHeartbeats 3200000 in
theorem ckmnil : KmNil := by
  intro W op a b nt
  have HA := hid (AAt.new W 0 0 0 false)
  go_enter Try.func9, Try.ntmps9
  go_wp2
  refine bodyPost_ret (results_atomQ (p := 10) (u := 11) (x := 12) rfl _ _ rfl HA.out) rfl ?_
  exact ⟨rfl, al W _⟩
theorem pl_ptrA {W : World} {F : Nat → Prop} {v : Value} {L : List TM.N} (h : Pl W F v L) : ∃ pb, v = .pointer (some ⟨pb, 0, none⟩) := by
  obtain ⟨b, a, c, mo, hv, _, _⟩ := h
  exact ⟨b, hv⟩
set_option maxHeartbeats 3200000 in
theorem ckmarg : KmArg Pl := by
  intro W F v L op a b nt hP ho w1 w2 w3
  obtain ⟨pb, rfl⟩ := pl_ptrA hP
  have HK := hid (fun w => casks op w)
  rw [ho] at HK
  have HA := hid (AAt.new W 0 0 0 false)
  clear hP ho w1 w2 w3
  go_enter Try.func9, Try.ntmps9
  go_wp2_with (go_at_call 25; refine (HK.out _).mono ?_; rintro e w1 ⟨rfl, rfl⟩)
  refine bodyPost_ret (results_atomQ (p := 10) (u := 11) (x := 12) rfl _ _ rfl HA.out) rfl ?_
  exact ⟨rfl, al W _⟩
/-- the atom's box, two nodes that were told -/
structure MkSt (W W' : World) (b1 b2 : Nat) (x y : TM.N) : Prop where
  z : AAt W' W.heap.size 0 0 0 false
  x : NAt W' b1 x
  y : NAt W' b2 y
  bl : Below W.heap.size W W'
structure MkS1 (W W' : World) (b1 : Nat) (x : TM.N) : Prop where
  z : AAt W' W.heap.size 0 0 0 false
  x : NAt W' b1 x
  bl : Below W.heap.size W W'
theorem MkS1.new {W w1 : World} (xo xa xb xk : Int) (hb : Below (W.alloc (.cells #[.int .i64 0, .int .i64 0, .int .i64 0, .bool false] 31)).heap.size (W.alloc (.cells #[.int .i64 0, .int .i64 0, .int .i64 0, .bool false] 31)) w1) :
    MkS1 W (w1.alloc (.cells #[.int .i64 xo, .int .i64 xa, .int .i64 xb, .int .u32 xk] 28)) w1.heap.size (xo, xa, xb, xk) :=
  ⟨((AAt.new W 0 0 0 false).below hb).below (al w1 _), NAt.new w1 xo xa xb xk, (stp (stp (al W _) hb) (al w1 _)).out⟩
theorem MkSt.new {W W' w2 : World} {b1 : Nat} {x : TM.N} (h : MkS1 W W' b1 x) (xo xa xb xk : Int) (hb : Below W'.heap.size W' w2) :
    MkSt W (w2.alloc (.cells #[.int .i64 xo, .int .i64 xa, .int .i64 xb, .int .u32 xk] 28)) b1 w2.heap.size x (xo, xa, xb, xk) :=
  ⟨(h.z.below hb).below (al w2 _), (h.x.below hb).below (al w2 _), NAt.new w2 xo xa xb xk, (stp (stp h.bl hb) (al w2 _)).out⟩
theorem MkSt.below {W W' W2 : World} {b1 b2 : Nat} {x y : TM.N} (h : MkSt W W' b1 b2 x y) (hb : Below W'.heap.size W' W2) : MkSt W W2 b1 b2 x y := ⟨h.z.below hb, h.x.below hb, h.y.below hb, (stp h.bl hb).out⟩
/-- what At tells, there or not -/
def AtQ (w : World) (v : Value) (a xo xa xb xk : Int) (q : Bool) : Prop := ∀ w1, Below w.heap.size w w1 → Calls Try.prog 17 #[v, .int .i64 a] w1 fun e w' => e = .returned (.tuple #[.agg #[.int .i64 xo, .int .i64 xa, .int .i64 xb, .int .u32 xk], .bool q]) ∧ Below w1.heap.size w1 w'
theorem atq {W : World} {F : Nat → Prop} {v : Value} {L : List TM.N} (hP : Pl W F v L) (i : Int) (hw : (Lit.int .i64 i).wf = true) : ∃ o a b k q, (q = true ↔ 0 ≤ i ∧ i < (L.length : Int)) ∧ AtQ W v i o a b k q := by
  obtain ⟨o, a, b, k, q, hq, h⟩ := pl_at L i hw
  exact ⟨o, a, b, k, q, hq, fun w1 hb => h w1 F v (pl_belowA hP hb)⟩
set_option maxHeartbeats 3200000 in
theorem ckmno (W : World) (pb : Nat) (op a b : Int) (nt : Bool) (ho : TM.isQ op = true) (oa aa ba ka ob ab bb kb : Int) (qa qb : Bool) (h : qa = false ∨ qb = false) (hA : AtQ W (.pointer (some ⟨pb, 0, none⟩)) a oa aa ba ka qa) (hB : AtQ W (.pointer (some ⟨pb, 0, none⟩)) b ob ab bb kb qb) :
    Calls Try.prog 9 #[.pointer (some ⟨pb, 0, none⟩), .int .i64 op, .int .i64 a, .int .i64 b, .bool nt] W fun e w' => e = .returned (.tuple #[.agg #[.int .i64 0, .int .i64 0, .int .i64 0, .bool false], .int .i64 0, .int .i64 2]) ∧ Below W.heap.size W w' := by
  have HK := hid (fun w => casks op w)
  rw [ho] at HK
  have H1 := hid hA
  have H2 := hid hB
  have HB0 := hid (al W (.cells #[.int .i64 0, .int .i64 0, .int .i64 0, .bool false] 31))
  have hq : (qa = false) ∨ (qa = true ∧ qb = false) := by cases qa <;> simp_all
  clear hA hB ho h
  rcases hq with rfl | ⟨rfl, rfl⟩
  all_goals
    go_enter Try.func9, Try.ntmps9
    go_wp2_with (first
      | (go_at_call 25; refine (HK.out _).mono ?_; clear HK; rintro e w0 ⟨rfl, rfl⟩)
      | (go_at_call 17; refine (H1.out _ HB0.out).mono ?_; clear H1; rintro e w1 ⟨rfl, hb⟩; have HS := hid (MkS1.new oa aa ba ka hb); clear hb)
      | (go_at_call 17; refine (H2.out _ HS.out.bl).mono ?_; clear H2; rintro e w2 ⟨rfl, hb⟩; have HT := hid (MkSt.new HS.out ob ab bb kb hb); clear hb HS; obtain ⟨s0, s1, s2, s3, sf⟩ := HT.out.z.cells))
    have hZ := HT.out.z.put 0 0 0 false
    have hY := aput_belowQ (o := 0) (p := 0) (q := 0) (n := false) HT.out.bl (Nat.le_refl _)
    unfold aput at hZ hY
    refine bodyPost_ret (results_atomQ (p := 10) (u := 11) (x := 12) rfl _ _ rfl hZ) rfl ?_
    exact ⟨rfl, hY⟩
theorem ckmrange : KmRange Pl := by
  intro W F v L op a b nt hP h3 ho hw1 hw2 hr
  obtain ⟨pb, rfl⟩ := pl_ptrA hP
  obtain ⟨oa, aa, ba, ka, qa, hqa, hA⟩ := atq hP a hw1
  obtain ⟨ob, ab, bb, kb, qb, hqb, hB⟩ := atq hP b hw2
  refine ckmno W pb op a b nt ho oa aa ba ka ob ab bb kb qa qb ?_ hA hB
  cases qa with
  | false => exact .inl rfl
  | true => cases qb with
    | false => exact .inr rfl
    | true =>
      have := hqa.1 rfl
      have := hqb.1 rfl
      omega
end Go.Proofs.Ytkeigicobcjleab.TB
namespace Go.Proofs.Ytkeigicobcjleab.TB
open Go.ChangeShapes Go.WideShapes Go.ChangeAt Go.RowKit
open Go.Sort hiding Below
set_option linter.unusedVariables false
set_option maxRecDepth 100000
/-- what a call on the pool tells, wherever -/
def AtmR (W : World) (F : Nat → Prop) (v : Value) (L : List TM.N) (T : TM.At) (f : Nat) (A : Array Value) : Prop := ∀ w1, Below W.heap.size W w1 → Calls Try.prog f A w1 fun e w' => AtomAt Pl w1 F v L T 1 e w'
set_option maxHeartbeats 6400000 in
theorem cmk_b (W : World) (F : Nat → Prop) (pb : Nat) (L : List TM.N) (op a b : Int) (nt : Bool) (ho : TM.isQ op = true) (oa aa ba ka ab bb kb : Int) (hA : AtQ W (.pointer (some ⟨pb, 0, none⟩)) a oa aa ba ka true) (hB : AtQ W (.pointer (some ⟨pb, 0, none⟩)) b 1 ab bb kb true) (hF : ∀ x, F x → x < W.heap.size) (T : TM.At)
    (hR : AtmR W F (.pointer (some ⟨pb, 0, none⟩)) L T 26 #[.pointer (some ⟨pb, 0, none⟩), quV op a kb nt]) :
    Calls Try.prog 9 #[.pointer (some ⟨pb, 0, none⟩), .int .i64 op, .int .i64 a, .int .i64 b, .bool nt] W fun e w' => AtomAt Pl W F (.pointer (some ⟨pb, 0, none⟩)) L T 1 e w' := by
  have HK := hid (fun w => casks op w)
  rw [ho] at HK
  have H1 := hid hA
  have H2 := hid hB
  have HR := hid hR
  have HF := hid hF
  have HB0 := hid (al W (.cells #[.int .i64 0, .int .i64 0, .int .i64 0, .bool false] 31))
  clear hA hB ho hR hF
  go_enter Try.func9, Try.ntmps9
  go_wp2_with (first
    | (go_at_call 25; refine (HK.out _).mono ?_; clear HK; rintro e w0 ⟨rfl, rfl⟩)
    | (go_at_call 17; refine (H1.out _ HB0.out).mono ?_; clear H1; rintro e w1 ⟨rfl, hb⟩; have HS := hid (MkS1.new oa aa ba ka hb); clear hb)
    | (go_at_call 17; refine (H2.out _ HS.out.bl).mono ?_; clear H2; rintro e w2 ⟨rfl, hb⟩; have HT := hid (MkSt.new HS.out 1 ab bb kb hb); clear hb HS; obtain ⟨y0, y1, y2, y3, yf⟩ := HT.out.y.cells)
    | (go_at_call 26; refine (HR.out _ HT.out.bl).mono ?_; clear HR; rintro e w4 ⟨F9, L9, o9, p9, q9, m9, rfl, hM9, hl9, hP9, hf9, hF9⟩; have HA1 := hid (HT.out.z.fr0 hf9 (fun g => by have := HF.out _ g; omega)); have HZ := hid (And.intro hM9 (And.intro hl9 (And.intro hP9 (And.intro hf9 hF9)))); clear hM9 hl9 hP9 hf9 hF9 y0 y1 y2 y3 yf; obtain ⟨s0, s1, s2, s3, sf⟩ := HA1.out.cells))
  have hX := AtomAt.box HT.out.bl (Nat.le_refl _) HT.out.z.lt HF.out (show AtomAt Pl _ F (.pointer (some ⟨pb, 0, none⟩)) L T 1 _ w4 from ⟨F9, L9, o9, p9, q9, m9, rfl, HZ.out⟩) o9 p9 q9 m9
  have hZ := HA1.out.put o9 p9 q9 m9
  unfold aput at hZ hX
  refine bodyPost_ret (results_atomQ (p := 10) (u := 11) (x := 12) rfl _ _ rfl hZ) rfl ?_
  exact hX
set_option maxHeartbeats 6400000 in
theorem cmk_a (W : World) (F : Nat → Prop) (pb : Nat) (L : List TM.N) (op a b : Int) (nt : Bool) (ho : TM.isQ op = true) (aa ba ka ob ab bb kb : Int) (hob : ob ≠ 1) (hA : AtQ W (.pointer (some ⟨pb, 0, none⟩)) a 1 aa ba ka true) (hB : AtQ W (.pointer (some ⟨pb, 0, none⟩)) b ob ab bb kb true) (hF : ∀ x, F x → x < W.heap.size) (T : TM.At)
    (hR : AtmR W F (.pointer (some ⟨pb, 0, none⟩)) L T 26 #[.pointer (some ⟨pb, 0, none⟩), quV (if op = 32 then 48 else if op = 48 then 32 else op) b ka (if op = 32 ∨ op = 48 then !nt else nt)]) :
    Calls Try.prog 9 #[.pointer (some ⟨pb, 0, none⟩), .int .i64 op, .int .i64 a, .int .i64 b, .bool nt] W fun e w' => AtomAt Pl W F (.pointer (some ⟨pb, 0, none⟩)) L T 1 e w' := by
  have HK := hid (fun w => casks op w)
  rw [ho] at HK
  have HO := hid (fun w => cotherWay op b ka nt w)
  obtain ⟨o2, ho2⟩ : ∃ o2, (if op = 32 then 48 else if op = 48 then 32 else op) = o2 := ⟨_, rfl⟩
  obtain ⟨n2, hn2⟩ : ∃ n2, (if op = 32 ∨ op = 48 then !nt else nt) = n2 := ⟨_, rfl⟩
  rw [ho2, hn2] at hR HO
  have H1 := hid hA
  have H2 := hid hB
  have HR := hid hR
  have HF := hid hF
  have HB0 := hid (al W (.cells #[.int .i64 0, .int .i64 0, .int .i64 0, .bool false] 31))
  have c1 : (ob == 1) = false := by simp [hob]
  clear hA hB ho hR hF ho2 hn2 hob
  go_enter Try.func9, Try.ntmps9
  go_wp2_with (first
    | (go_at_call 25; refine (HK.out _).mono ?_; clear HK; rintro e w0 ⟨rfl, rfl⟩)
    | (go_at_call 17; refine (H1.out _ HB0.out).mono ?_; clear H1; rintro e w1 ⟨rfl, hb⟩; have HS := hid (MkS1.new 1 aa ba ka hb); clear hb)
    | (go_at_call 17; refine (H2.out _ HS.out.bl).mono ?_; clear H2; rintro e w2 ⟨rfl, hb⟩; have HT0 := hid (MkSt.new HS.out ob ab bb kb hb); clear hb HS; obtain ⟨y0, y1, y2, y3, yf⟩ := HT0.out.y.cells; obtain ⟨x0, x1, x2, x3, xf⟩ := HT0.out.x.cells)
    | (go_at_call 27; refine (HO.out _).mono ?_; clear HO; rintro e w3 ⟨rfl, hb⟩; have HT := hid (HT0.out.below hb); clear hb HT0 y0 y1 y2 y3 yf x0 x1 x2 x3 xf)
    | (go_at_call 26; refine (HR.out _ HT.out.bl).mono ?_; clear HR; rintro e w4 ⟨F9, L9, o9, p9, q9, m9, rfl, hM9, hl9, hP9, hf9, hF9⟩; have HA1 := hid (HT.out.z.fr0 hf9 (fun g => by have := HF.out _ g; omega)); have HZ := hid (And.intro hM9 (And.intro hl9 (And.intro hP9 (And.intro hf9 hF9)))); clear hM9 hl9 hP9 hf9 hF9; obtain ⟨s0, s1, s2, s3, sf⟩ := HA1.out.cells))
  have hX := AtomAt.box HT.out.bl (Nat.le_refl _) HT.out.z.lt HF.out (show AtomAt Pl _ F (.pointer (some ⟨pb, 0, none⟩)) L T 1 _ w4 from ⟨F9, L9, o9, p9, q9, m9, rfl, HZ.out⟩) o9 p9 q9 m9
  have hZ := HA1.out.put o9 p9 q9 m9
  unfold aput at hZ hX
  refine bodyPost_ret (results_atomQ (p := 10) (u := 11) (x := 12) rfl _ _ rfl hZ) rfl ?_
  exact hX
set_option maxHeartbeats 6400000 in
theorem cmk_one (W : World) (F : Nat → Prop) (pb : Nat) (L : List TM.N) (op a : Int) (nt : Bool) (ho : TM.isQ op = true) (oa aa ba ka : Int) (hoa : oa ≠ 1) (hA : AtQ W (.pointer (some ⟨pb, 0, none⟩)) a oa aa ba ka true) (hF : ∀ x, F x → x < W.heap.size) (T : TM.At)
    (hR : AtmR W F (.pointer (some ⟨pb, 0, none⟩)) L T 28 #[.pointer (some ⟨pb, 0, none⟩), .int .i64 op, .int .i64 a, .bool nt]) :
    Calls Try.prog 9 #[.pointer (some ⟨pb, 0, none⟩), .int .i64 op, .int .i64 a, .int .i64 a, .bool nt] W fun e w' => AtomAt Pl W F (.pointer (some ⟨pb, 0, none⟩)) L T 1 e w' := by
  have HK := hid (fun w => casks op w)
  rw [ho] at HK
  have H1 := hid hA
  have H2 := hid hA
  have HR := hid hR
  have HF := hid hF
  have HB0 := hid (al W (.cells #[.int .i64 0, .int .i64 0, .int .i64 0, .bool false] 31))
  have c1 : (oa == 1) = false := by simp [hoa]
  clear hA ho hR hF hoa
  go_enter Try.func9, Try.ntmps9
  go_wp2_with (first
    | (go_at_call 25; refine (HK.out _).mono ?_; clear HK; rintro e w0 ⟨rfl, rfl⟩)
    | (go_at_call 17; refine (H1.out _ HB0.out).mono ?_; clear H1; rintro e w1 ⟨rfl, hb⟩; have HS := hid (MkS1.new oa aa ba ka hb); clear hb)
    | (go_at_call 17; refine (H2.out _ HS.out.bl).mono ?_; clear H2; rintro e w2 ⟨rfl, hb⟩; have HT := hid (MkSt.new HS.out oa aa ba ka hb); clear hb HS; obtain ⟨y0, y1, y2, y3, yf⟩ := HT.out.y.cells; obtain ⟨x0, x1, x2, x3, xf⟩ := HT.out.x.cells)
    | (go_at_call 28; refine (HR.out _ HT.out.bl).mono ?_; clear HR; rintro e w4 ⟨F9, L9, o9, p9, q9, m9, rfl, hM9, hl9, hP9, hf9, hF9⟩; have HA1 := hid (HT.out.z.fr0 hf9 (fun g => by have := HF.out _ g; omega)); have HZ := hid (And.intro hM9 (And.intro hl9 (And.intro hP9 (And.intro hf9 hF9)))); clear hM9 hl9 hP9 hf9 hF9 y0 y1 y2 y3 yf x0 x1 x2 x3 xf; obtain ⟨s0, s1, s2, s3, sf⟩ := HA1.out.cells))
  have hX := AtomAt.box HT.out.bl (Nat.le_refl _) HT.out.z.lt HF.out (show AtomAt Pl _ F (.pointer (some ⟨pb, 0, none⟩)) L T 1 _ w4 from ⟨F9, L9, o9, p9, q9, m9, rfl, HZ.out⟩) o9 p9 q9 m9
  have hZ := HA1.out.put o9 p9 q9 m9
  unfold aput at hZ hX
  refine bodyPost_ret (results_atomQ (p := 10) (u := 11) (x := 12) rfl _ _ rfl hZ) rfl ?_
  exact hX
set_option maxHeartbeats 6400000 in
theorem cmk_two (W : World) (pb : Nat) (op a b : Int) (nt : Bool) (ho : TM.isQ op = true) (oa aa ba ka ob ab bb kb : Int) (hoa : oa ≠ 1) (hob : ob ≠ 1) (hne : a ≠ b) (hA : AtQ W (.pointer (some ⟨pb, 0, none⟩)) a oa aa ba ka true) (hB : AtQ W (.pointer (some ⟨pb, 0, none⟩)) b ob ab bb kb true) :
    Calls Try.prog 9 #[.pointer (some ⟨pb, 0, none⟩), .int .i64 op, .int .i64 a, .int .i64 b, .bool nt] W fun e w' => e = .returned (.tuple #[.agg #[.int .i64 op, .int .i64 a, .int .i64 b, .bool nt], .int .i64 1, .int .i64 0]) ∧ Below W.heap.size W w' := by
  have HK := hid (fun w => casks op w)
  rw [ho] at HK
  have H1 := hid hA
  have H2 := hid hB
  have HB0 := hid (al W (.cells #[.int .i64 0, .int .i64 0, .int .i64 0, .bool false] 31))
  have c1 : (oa == 1) = false := by simp [hoa]
  have c2 : (ob == 1) = false := by simp [hob]
  have c3 : (a == b) = false := by simp [hne]
  clear hA hB ho hoa hob hne
  go_enter Try.func9, Try.ntmps9
  go_wp2_with (first
    | (go_at_call 25; refine (HK.out _).mono ?_; clear HK; rintro e w0 ⟨rfl, rfl⟩)
    | (go_at_call 17; refine (H1.out _ HB0.out).mono ?_; clear H1; rintro e w1 ⟨rfl, hb⟩; have HS := hid (MkS1.new oa aa ba ka hb); clear hb)
    | (go_at_call 17; refine (H2.out _ HS.out.bl).mono ?_; clear H2; rintro e w2 ⟨rfl, hb⟩; have HT := hid (MkSt.new HS.out ob ab bb kb hb); clear hb HS; obtain ⟨y0, y1, y2, y3, yf⟩ := HT.out.y.cells; obtain ⟨x0, x1, x2, x3, xf⟩ := HT.out.x.cells; obtain ⟨s0, s1, s2, s3, sf⟩ := HT.out.z.cells))
  have hZ := HT.out.z.put op a b nt
  have hY := aput_belowQ (o := op) (p := a) (q := b) (n := nt) HT.out.bl (Nat.le_refl _)
  unfold aput at hZ hY
  refine bodyPost_ret (results_atomQ (p := 10) (u := 11) (x := 12) rfl _ _ rfl hZ) rfl ?_
  exact ⟨rfl, hY⟩
theorem ckmok : KmOk Pl := by
  intro W F v L op a b nt hP h1 h2 h3 hn ho ha hb
  obtain ⟨pb, rfl⟩ := pl_ptrA hP
  have hF : ∀ x, F x → x < W.heap.size := fun x hx => pl_lt W F _ L hP x hx
  have hna := TM.nm_row h1 ha
  have hnb := TM.nm_row h1 hb
  rw [TM.nat0_eq ha] at hna
  rw [TM.nat0_eq hb] at hnb
  have hka := TM.nat0_ok h3 a
  have hkb := TM.nat0_ok h3 b
  rw [TM.nat0_eq ha] at hka
  rw [TM.nat0_eq hb] at hkb
  have hne : a ≠ b → TM.tr L a ≠ TM.tr L b := fun h e => h (TM.tr_inj h1 h3 h2 a b ha hb e)
  obtain ⟨x, hx⟩ : ∃ x, L[a] = x := ⟨_, rfl⟩
  obtain ⟨y, hy⟩ : ∃ y, L[b] = y := ⟨_, rfl⟩
  rw [hx] at hna hka
  rw [hy] at hnb hkb
  obtain ⟨oa, aa, ba, ka⟩ := x
  obtain ⟨ob, ab, bb, kb⟩ := y
  simp only at hna hnb
  have hwa : TM.W32 ka := hka.2.2.2
  have hwb : TM.W32 kb := hkb.2.2.2
  have hA : AtQ W (.pointer (some ⟨pb, 0, none⟩)) (a : Int) oa aa ba ka true := fun w1 hw => pl_has w1 F _ L a (pl_belowA hP hw) ha oa aa ba ka hx
  have hB : AtQ W (.pointer (some ⟨pb, 0, none⟩)) (b : Int) ob ab bb kb true := fun w1 hw => pl_has w1 F _ L b (pl_belowA hP hw) hb ob ab bb kb hy
  have hN : ∀ (o : Int), TM.isQ o = true → ∀ (c : Nat), c < L.length → ∀ k, TM.W32 k → ∀ n, AtmR W F (.pointer (some ⟨pb, 0, none⟩)) L (TM.ofQ o (TM.tr L c) k n) 26 #[.pointer (some ⟨pb, 0, none⟩), quV o c k n] :=
    fun o ho c hc k hk n w1 hw => cofNumber w1 F _ L (pl_belowA hP hw) h1 h2 h3 hn o ho c hc k hk n
  by_cases c2 : ob = 1
  · subst c2
    rw [if_pos rfl] at hnb
    rw [TM.mkA_b hnb]
    exact (cmk_b W F pb L op a b nt ho oa aa ba ka ab bb kb hA hB hF _ (hN op ho a ha kb hwb nt)).mono (fun e w' h => h.mono (by omega))
  rw [if_neg c2] at hnb
  by_cases c1 : oa = 1
  · subst c1
    rw [if_pos rfl] at hna
    have hq : TM.isQ (if op = 32 then 48 else if op = 48 then 32 else op) = true := by
      split
      · rfl
      · split
        · rfl
        · exact ho
    have he : TM.mkA op (TM.tr L a) (TM.tr L b) nt = TM.ofQ (if op = 32 then 48 else if op = 48 then 32 else op) (TM.tr L b) ka (if op = 32 ∨ op = 48 then !nt else nt) := by
      rw [TM.mkA_a hna hnb]
      by_cases e1 : op = 32
      · subst e1; rfl
      · by_cases e2 : op = 48
        · subst e2; rfl
        · rw [if_neg e1, if_neg e2, if_neg e1, if_neg e2, if_neg (by omega)]
    rw [he]
    exact (cmk_a W F pb L op a b nt ho aa ba ka ob ab bb kb c2 hA hB hF _ (hN _ hq b hb ka hwa _)).mono (fun e w' h => h.mono (by omega))
  rw [if_neg c1] at hna
  by_cases c3 : a = b
  · subst c3
    exact (cmk_one W F pb L op a nt ho oa aa ba ka c1 hA hF _ (fun w1 hw => cofOne w1 F _ L (pl_belowA hP hw) h1 h2 h3 hn op ho a ha hna nt)).mono (fun e w' h => h.mono (by omega))
  · rw [TM.mkA_two hna hnb (hne c3)]
    refine (cmk_two W pb op a b nt ho oa aa ba ka ob ab bb kb c1 c2 (by omega) hA hB).mono ?_
    rintro e w' ⟨rfl, hbl⟩
    exact ⟨F, L, op, a, b, nt, rfl, TM.MadeA.opn (TM.Made.here h1 h2 h3 hb) ha op nt, by omega, pl_belowA hP hbl, Fr.of_below hbl, fun b h => .inl h⟩
end Go.Proofs.Ytkeigicobcjleab.TB
