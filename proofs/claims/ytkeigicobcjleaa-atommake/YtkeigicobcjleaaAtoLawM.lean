/-
  The walk of the statement AtomMake, over what the program's own functions answer.
-/
import Derived.Test.YtkeigicobcjleaaAtoMade
import Derived.Test.YtkeigicobcjleaaAtoRefE
import Derived.Test.YtkeigicobcjleaaAtoRec
import Derived.Test.YtkeigicobcjleaaTerLawV
import Derived.Test.YtkeigicobcjleaaAtoEq
namespace Go.Proofs.Ytkeigicobcjleaa.TB
open Go.ChangeShapes Go.WideShapes Go.ChangeAt Go.RowKit
open Go.Sort hiding Below
set_option linter.unusedVariables false
set_option maxRecDepth 100000

set_option maxHeartbeats 3200000 in
set_option maxRecDepth 1000000 in
theorem amake_big (hAw : Aw13) (A : Option Addr) (n cap : Nat) (o a b : Int) (nt : Bool) (hn : 60 < n) (w : World) :
    Calls Try.prog 4 #[.slice A n cap, .agg #[.int .i64 o, .int .i64 a, .int .i64 b, .bool nt]] w fun e w' => e = .returned (.bool true) ∧ Below w.heap.size w w' := by
  have hd : decide (60 < (n : Int)) = true := decide_eq_true (by omega)
  have HAw := hid hAw
  have hA0 := AAt.new w o a b nt
  have hb0 := al w (.cells #[.int .i64 o, .int .i64 a, .int .i64 b, .bool nt] 24)
  obtain ⟨w0, hw0⟩ : ∃ w0, w.alloc (.cells #[.int .i64 o, .int .i64 a, .int .i64 b, .bool nt] 24) = w0 := ⟨_, rfl⟩
  rw [hw0] at hA0 hb0
  have HA := hid hA0
  have HB := hid hb0
  clear hA0 hb0
  clear hn hAw
  go_enter Try.func4, Try.ntmps4
  go_wp2_with fail
  try rw [hw0]
  clear hw0
  refine (HAw.out _).mono ?_
  rintro e1 w1 ⟨rfl, hb⟩
  replace HA := hid (HA.out.below hb)
  replace HB := stp HB hb
  clear hb
  go_wp2_with fail
  refine (HAw.out _).mono ?_
  rintro e w2 ⟨rfl, hb⟩
  replace HB := stp HB hb
  clear hb
  go_wp2
  go_ret
  exact ⟨rfl, HB.out⟩
set_option maxHeartbeats 3200000 in
set_option maxRecDepth 1000000 in
theorem amake_bad (hAw : Aw13) (A : Option Addr) (n cap : Nat) (o a b : Int) (nt : Bool) (l : List TM.N) (hln : l.length = n) (hn : n ≤ 60) (ok : ∀ x ∈ l, TM.okN x) (hr : TM.rowB l = false) (w : World) (hl : LiesN w A l) :
    Calls Try.prog 4 #[.slice A n cap, .agg #[.int .i64 o, .int .i64 a, .int .i64 b, .bool nt]] w fun e w' => e = .returned (.bool true) ∧ Below w.heap.size w w' := by
  have hd : decide (60 < (n : Int)) = false := decide_eq_false (by omega)
  have HAw := hid hAw
  have HRt := hid (fun W (h : LiesN W A l) => rrow_any A n cap l hln (by omega) ok W h false hr)
  have HL := hid hl
  have hA0 := AAt.new w o a b nt
  have hb0 := al w (.cells #[.int .i64 o, .int .i64 a, .int .i64 b, .bool nt] 24)
  obtain ⟨w0, hw0⟩ : ∃ w0, w.alloc (.cells #[.int .i64 o, .int .i64 a, .int .i64 b, .bool nt] 24) = w0 := ⟨_, rfl⟩
  rw [hw0] at hA0 hb0
  have HA := hid hA0
  have HB := hid hb0
  clear hA0 hb0
  clear hn hAw hln ok hr hl
  go_enter Try.func4, Try.ntmps4
  go_wp2_with fail
  try rw [hw0]
  clear hw0
  refine (HAw.out _).mono ?_
  rintro e1 w1 ⟨rfl, hb⟩
  replace HA := hid (HA.out.below hb)
  replace HB := stp HB hb
  clear hb
  go_wp2_with fail
  refine (HRt.out _ (HL.out.below HB.out)).mono ?_
  rintro e w2 ⟨rfl, hb⟩
  replace HB := stp HB hb
  clear hb
  go_wp2_with fail
  refine (HAw.out _).mono ?_
  rintro e w3 ⟨rfl, hb⟩
  replace HB := stp HB hb
  clear hb
  go_wp2
  go_ret
  exact ⟨rfl, HB.out⟩
set_option maxHeartbeats 6400000 in
set_option maxRecDepth 1000000 in
theorem amake_none (hAw : Aw13) {Pl : PoolIs} (hPl : PoolOk Pl) (A : Option Addr) (n cap : Nat) (o a b : Int) (nt : Bool) (l : List TM.N) (hln : l.length = n) (hn : n ≤ 60) (ok : ∀ x ∈ l, TM.okN x) (hrb : TM.rowB l = true) (q : Int) (hq : q ≠ 0) (hchk : ∀ L : List TM.N, TM.pl [] l n = L → TM.chkA L o a b = q) (hMk : ∀ L : List TM.N, TM.pl [] l n = L → ∀ (W : World) (F : Nat → Prop) (v : Value), Pl W F v L → Calls Try.prog 18 #[v, .int .i64 o, .int .i64 a, .int .i64 b, .bool nt] W fun e w' => e = .returned (.tuple #[.agg #[.int .i64 0, .int .i64 0, .int .i64 0, .bool false], .int .i64 0, .int .i64 q]) ∧ Below W.heap.size W w') (w : World) (hl : LiesN w A l) :
    Calls Try.prog 4 #[.slice A n cap, .agg #[.int .i64 o, .int .i64 a, .int .i64 b, .bool nt]] w fun e w' => e = .returned (.bool true) ∧ Below w.heap.size w w' := by
  have hqd : (q != 0) = true := bne_iff_ne.2 hq
  have hqq : (q == q) = true := beq_self_eq_true q
  have hd : decide (60 < (n : Int)) = false := decide_eq_false (by omega)
  have hr := TM.row_iff.1 hrb
  have HAw := hid hAw
  have HRt := hid (fun W (h : LiesN W A l) => rrow_any A n cap l hln (by omega) ok W h true hrb)
  have HI1 := hid (fun W (h : LiesN W A l) => rinto_any W.heap.size 0 0 none [] A n cap l hln hr ok TM.row_nil TM.once_nil (fun x hx => (by cases hx)) (by simp; omega) W h (Nat.le_refl _) (fun h0 B hB => by
    obtain ⟨b, o, rfl, hh⟩ := h.ly (by omega)
    injection hB with hB; subst hB; exact hh.1) (OwnN.nil _ _))
  have hinv := TM.pl_inv hr ok TM.row_nil TM.once_nil (fun x hx => (by cases hx)) (by simp; omega) n (by rw [hln]; exact Nat.le_refl _)
  obtain ⟨L, hL⟩ : ∃ L, TM.pl [] l n = L := ⟨_, rfl⟩
  rw [hL] at hinv
  have HI1' := hid (fun W h => by have := HI1.out W h; rw [hL] at this; exact this)
  obtain ⟨i1, i2, i3, i4, _⟩ := hinv
  simp only [List.length_nil, Nat.zero_add] at i1
  replace hchk := hchk L hL
  replace hMk := hMk L hL
  have HH := hid hl
  have hA0 := AAt.new w o a b nt
  have hb0 := al w (.cells #[.int .i64 o, .int .i64 a, .int .i64 b, .bool nt] 24)
  obtain ⟨w0, hw0⟩ : ∃ w0, w.alloc (.cells #[.int .i64 o, .int .i64 a, .int .i64 b, .bool nt] 24) = w0 := ⟨_, rfl⟩
  rw [hw0] at hA0 hb0
  have HA := hid hA0
  have HB := hid hb0
  clear hA0 hb0
  have HL0 := hid (HH.out.below HB.out)
  clear hAw hln ok hrb hr hl HI1 hL
  go_enter Try.func4, Try.ntmps4
  go_wp2_with fail
  try rw [hw0]
  clear hw0
  refine (HAw.out _).mono ?_
  rintro e1 w1 ⟨rfl, hb⟩
  replace HA := hid (HA.out.below hb)
  replace HB := stp HB hb
  clear hb
  clear HAw
  go_wp2_with fail
  refine (HRt.out _ (HH.out.below HB.out)).mono ?_
  rintro e1 w2 ⟨rfl, hb⟩
  replace HA := hid (HA.out.below hb)
  replace HB := stp HB hb
  clear hb HRt
  go_wp2_with fail
  refine (HI1'.out _ (HH.out.below HB.out)).mono ?_
  rintro e1 w3 ⟨s, m, c, rfl, hO, _, hg, _⟩
  have hb3 := gbelow hg (Nat.le_refl _) (fun k hk => by cases hk)
  replace HA := hid (HA.out.below hb3)
  have hlm := hO.len
  have hmc := hO.cap
  have HLs := hid hO.lies
  have HO := hid hO
  have hs3 : w2.heap.size ≤ w3.heap.size := hb3.size
  have HSB := hid (show ∀ k, blk s = some k → w2.heap.size ≤ k ∧ k < w3.heap.size from fun k hk => by
    obtain ⟨A', hA', e⟩ := blk_at hk
    have := HO.out.at A' hA'
    omega)
  have HW2 := hid (show w.heap.size ≤ w2.heap.size from HB.out.size)
  replace HB := stp HB hb3
  have HCk := hid (fun W (h : LiesN W s L) => rcheckA s m c L hlm (by omega) i4 o a b nt W h)
  rw [hchk] at HCk
  clear hO hg hb3 HI1' HH HL0
  obtain ⟨a0, a1, a2, a3, af⟩ := HA.out.cells
  have hla := HA.out.load
  go_wp2_with fail
  refine (HCk.out _ HLs.out).mono ?_
  rintro e1 w4 ⟨rfl, hb⟩
  replace HA := hid (HA.out.below hb)
  replace HLs := hid (HLs.out.below hb)
  replace HO := hid (HO.out.below hb)
  have hs4 : w2.heap.size ≤ w4.heap.size := Nat.le_trans hs3 hb.size
  have hs34 : w3.heap.size ≤ w4.heap.size := hb.size
  replace HB := stp HB hb
  clear hb HCk a0 a1 a2 a3 af hla
  have HLp := hid (fun W (h : LiesN W s L) => lpool13 hPl s m c L hlm (by omega) i2 i3 i4 W h)
  have hz := eqlA 0 0 0 false 0 0 0 false
  have hg := guardA
  clear hPl hchk
  go_wp2_with fail
  refine (HLp.out _ HLs.out).mono ?_
  rintro e1 w5 ⟨v, F, rfl, hpl, hb, hF⟩
  replace HA := hid (HA.out.below hb)
  replace HB := stp HB hb
  have HQ := hid hpl
  clear hb hF hpl HLp
  obtain ⟨a0, a1, a2, a3, af⟩ := HA.out.cells
  go_wp2_with fail
  refine (hMk _ F v HQ.out).mono ?_
  rintro e1 w6 ⟨rfl, hb⟩
  have hAl := al w6 (.cells #[.int .i64 0, .int .i64 0, .int .i64 0, .bool false] 24)
  have HT := hid (AAt.new w6 0 0 0 false)
  have HBf := stp HB (hb.trans (hAl.mono hb.size))
  obtain ⟨t0, t1, t2, t3, tf⟩ := HT.out.cells
  clear hb hAl a0 a1 a2 a3 af HB
  go_wp2
  go_ret
  exact ⟨rfl, HBf.out⟩
set_option maxHeartbeats 6400000 in
set_option maxRecDepth 1000000 in
theorem amake_good (hAw : Aw13) {Pl : PoolIs} (hPl : PoolOk Pl) (hKm : KmOk Pl) (hPa : PfOk Pl) (A : Option Addr) (n cap : Nat) (o : Int) (a b : Nat) (nt : Bool) (l : List TM.N) (hln : l.length = n) (hn : n ≤ 60) (ok : ∀ x ∈ l, TM.okN x) (hrb : TM.rowB l = true) (ho : TM.isQ o = true) (hab : ∀ L : List TM.N, TM.pl [] l n = L → a < L.length ∧ b < L.length) (w : World) (hl : LiesN w A l) :
    Calls Try.prog 4 #[.slice A n cap, .agg #[.int .i64 o, .int .i64 (a : Int), .int .i64 (b : Int), .bool nt]] w fun e w' => e = .returned (.bool true) ∧ Below w.heap.size w w' := by
  have hchk : ∀ L : List TM.N, TM.pl [] l n = L → TM.chkA L o a b = 0 := fun L hL => by
    obtain ⟨h1, h2⟩ := hab L hL
    have hrow : TM.Row L := by
      rw [← hL]
      exact (TM.pl_inv (TM.row_iff.1 hrb) ok TM.row_nil TM.once_nil (fun x hx => (by cases hx)) (by simp; omega) n (by rw [hln]; exact Nat.le_refl _)).2.1
    unfold TM.chkA
    rw [if_pos (TM.row_iff.2 hrow), if_pos ho, if_neg (by omega)]
  have hd : decide (60 < (n : Int)) = false := decide_eq_false (by omega)
  have hr := TM.row_iff.1 hrb
  have HAw := hid hAw
  have HRt := hid (fun W (h : LiesN W A l) => rrow_any A n cap l hln (by omega) ok W h true hrb)
  have HI1 := hid (fun W (h : LiesN W A l) => rinto_any W.heap.size 0 0 none [] A n cap l hln hr ok TM.row_nil TM.once_nil (fun x hx => (by cases hx)) (by simp; omega) W h (Nat.le_refl _) (fun h0 B hB => by
    obtain ⟨b, o, rfl, hh⟩ := h.ly (by omega)
    injection hB with hB; subst hB; exact hh.1) (OwnN.nil _ _))
  have hinv := TM.pl_inv hr ok TM.row_nil TM.once_nil (fun x hx => (by cases hx)) (by simp; omega) n (by rw [hln]; exact Nat.le_refl _)
  obtain ⟨L, hL⟩ : ∃ L, TM.pl [] l n = L := ⟨_, rfl⟩
  rw [hL] at hinv
  have HI1' := hid (fun W h => by have := HI1.out W h; rw [hL] at this; exact this)
  obtain ⟨i1, i2, i3, i4, _⟩ := hinv
  simp only [List.length_nil, Nat.zero_add] at i1
  replace hchk := hchk L hL
  replace hab := hab L hL
  have HH := hid hl
  have hA0 := AAt.new w o a b nt
  have hb0 := al w (.cells #[.int .i64 o, .int .i64 a, .int .i64 b, .bool nt] 24)
  obtain ⟨w0, hw0⟩ : ∃ w0, w.alloc (.cells #[.int .i64 o, .int .i64 a, .int .i64 b, .bool nt] 24) = w0 := ⟨_, rfl⟩
  rw [hw0] at hA0 hb0
  have HA := hid hA0
  have HB := hid hb0
  clear hA0 hb0
  have HL0 := hid (HH.out.below HB.out)
  clear hAw hln ok hrb hr hl HI1 hL
  go_enter Try.func4, Try.ntmps4
  go_wp2_with fail
  try rw [hw0]
  clear hw0
  refine (HAw.out _).mono ?_
  rintro e1 w1 ⟨rfl, hb⟩
  replace HA := hid (HA.out.below hb)
  replace HB := stp HB hb
  clear hb
  clear HAw
  go_wp2_with fail
  refine (HRt.out _ (HH.out.below HB.out)).mono ?_
  rintro e1 w2 ⟨rfl, hb⟩
  replace HA := hid (HA.out.below hb)
  replace HB := stp HB hb
  clear hb HRt
  go_wp2_with fail
  refine (HI1'.out _ (HH.out.below HB.out)).mono ?_
  rintro e1 w3 ⟨s, m, c, rfl, hO, _, hg, _⟩
  have hb3 := gbelow hg (Nat.le_refl _) (fun k hk => by cases hk)
  replace HA := hid (HA.out.below hb3)
  have hlm := hO.len
  have hmc := hO.cap
  have HLs := hid hO.lies
  have HO := hid hO
  have hs3 : w2.heap.size ≤ w3.heap.size := hb3.size
  have HSB := hid (show ∀ k, blk s = some k → w2.heap.size ≤ k ∧ k < w3.heap.size from fun k hk => by
    obtain ⟨A', hA', e⟩ := blk_at hk
    have := HO.out.at A' hA'
    omega)
  have HW2 := hid (show w.heap.size ≤ w2.heap.size from HB.out.size)
  replace HB := stp HB hb3
  have HCk := hid (fun W (h : LiesN W s L) => rcheckA s m c L hlm (by omega) i4 o a b nt W h)
  rw [hchk] at HCk
  clear hO hg hb3 HI1' HH HL0
  obtain ⟨a0, a1, a2, a3, af⟩ := HA.out.cells
  have hla := HA.out.load
  go_wp2_with fail
  refine (HCk.out _ HLs.out).mono ?_
  rintro e1 w4 ⟨rfl, hb⟩
  replace HA := hid (HA.out.below hb)
  replace HLs := hid (HLs.out.below hb)
  replace HO := hid (HO.out.below hb)
  have hs4 : w2.heap.size ≤ w4.heap.size := Nat.le_trans hs3 hb.size
  have hs34 : w3.heap.size ≤ w4.heap.size := hb.size
  replace HB := stp HB hb
  clear hb HCk a0 a1 a2 a3 af hla
  have HMd := hid (fun W (h : LiesN W s L) => lmade hPl hKm hPa s m c L hlm (by omega) i2 i3 i4 o ho a b (by omega) (by omega) nt W h)
  have HLL := hid (And.intro i2 (And.intro i3 (And.intro i4 (And.intro ho (And.intro hab hlm)))))
  clear hPl hKm hPa hchk
  obtain ⟨a0, a1, a2, a3, af⟩ := HA.out.cells
  have HRM := hid (fun W (h : OwnN W w2.heap.size s m c L) (hbs : w2.heap.size ≤ W.heap.size) => rmakeA_any ho nt w2.heap.size m c a b s L (by omega) i2 i3 i4 (by omega) (by omega) W h hbs)
  obtain ⟨t, ht⟩ : ∃ t, TM.mkA o (TM.tr L a) (TM.tr L b) nt = t := ⟨_, rfl⟩
  have hOk := TM.mkA_fix ho (TM.tr_okT i2 i4 a (by omega)) (TM.tr_okT i2 i4 b (by omega)) nt
  rw [ht] at HRM HMd hOk
  have HOk := hid hOk
  clear ht hOk
  go_wp2_with fail
  refine (HMd.out _ HLs.out).mono ?_
  rintro e1 w5 ⟨L2, o2, p, q, n2, s5, c5, rfl, hM, hML, hc5, hl5, hb, hs5⟩
  have hAl := al w5 (.cells #[.int .i64 o2, .int .i64 (p : Int), .int .i64 (q : Int), .bool n2] 24)
  have hT := AAt.new w5 o2 (p : Int) (q : Int) n2
  have hbb := hb.trans (hAl.mono hb.size)
  replace HA := hid (HA.out.below hbb)
  replace HO := hid (HO.out.below hbb)
  replace HB := stp HB hbb
  have hl5' := hl5.below hAl
  have hs5b : w4.heap.size ≤ w5.heap.size := hb.size
  obtain ⟨w6, hw6⟩ : ∃ w6, w5.alloc (.cells #[.int .i64 o2, .int .i64 (p : Int), .int .i64 (q : Int), .bool n2] 24) = w6 := ⟨_, rfl⟩
  rw [hw6] at hT HA HO HB hl5' hAl
  have hs56 : w5.heap.size ≤ w6.heap.size := hAl.size
  have HT := hid hT
  have HM := hid (And.intro hM hML)
  have HL5 := hid (And.intro hl5' hs5)
  obtain ⟨tb, htb⟩ : ∃ tb, w5.heap.size = tb := ⟨_, rfl⟩
  rw [htb] at HT hs5b hs56
  clear hM hML hl5 hb hs5 hAl hT hbb hl5' a0 a1 a2 a3 af HMd HLs
  obtain ⟨a0, a1, a2, a3, af⟩ := HA.out.cells
  go_wp2_with fail
  try rw [hw6]
  try rw [htb]
  refine (HRM.out _ HO.out (by omega)).mono ?_
  rintro e1 w7 ⟨s', n', c', L3, o3, p3, q3, n3, rfl, hO3, hg3, hat3, _, hM3, hL3⟩
  clear hw6 htb
  have hne : ∀ k, blk s = some k → w.heap.size ≤ k := fun k hk => by have := (HSB.out k hk).1; have := HW2.out; omega
  have hb7 : Below w.heap.size w w7 := HB.out.grown hg3 HB.out.size (fun k hk => hne k hk)
  have hT7 := HT.out.grown hg3 (fun e => by have := (HSB.out tb e.symm).2; omega)
  have hl7 : LiesN w7 s5 L2 := lies_grown HL5.out.1 hg3 (fun k hk e => by
    have h1 := HL5.out.2 k hk
    have h2 := (HSB.out k e).2
    omega)
  have hal := al w7 (.cells #[.int .i64 o3, .int .i64 (p3 : Int), .int .i64 (q3 : Int), .bool n3] 24)
  have hU := AAt.new w7 o3 (p3 : Int) (q3 : Int) n3
  have hs67 : w6.heap.size ≤ w7.heap.size := hg3.size
  obtain ⟨w8, hw8⟩ : ∃ w8, w7.alloc (.cells #[.int .i64 o3, .int .i64 (p3 : Int), .int .i64 (q3 : Int), .bool n3] 24) = w8 := ⟨_, rfl⟩
  rw [hw8] at hal hU
  have HF := hid (show AAt w8 tb o2 (p : Int) (q : Int) n2 ∧ AAt w8 w7.heap.size o3 (p3 : Int) (q3 : Int) n3 ∧ LiesN w8 s5 L2 ∧ Below w.heap.size w w8 ∧ OwnN w8 w2.heap.size s' n' c' L3 from ⟨hT7.below hal, hU, hl7.below hal, hb7.trans (hal.mono hb7.size), hO3.below hal⟩)
  have HM3 := hid (And.intro hM3 hL3)
  obtain ⟨ub, hub⟩ : ∃ ub, w7.heap.size = ub := ⟨_, rfl⟩
  rw [hub] at HF
  clear hO3 hg3 hat3 hM3 hL3 hne hb7 hT7 hl7 hal hU HRM HT HL5 HB HO HA a0 a1 a2 a3 af
  by_cases e : t.1 = 1
  · have d1 : (((t.1 : Nat) : Int) != 1) = false := by rw [e]; rfl
    have d0 : (((t.1 : Nat) : Int) != ((t.1 : Nat) : Int)) = false := bne_self_eq_false _
    obtain ⟨rfl, rfl, hp, hq, hpt, hqt⟩ := HM.out.1.op e
    obtain ⟨rfl, rfl, hp3, hq3, hpt3, hqt3⟩ := HM3.out.1.op e
    have hlm2 := HLL.out.2.2.2.2.2
    have hL2n : L2.length ≤ 200 := by have := HM.out.2; omega
    have hL3n : L3.length ≤ 400 := by have := HM3.out.2; have := HLL.out.2.2.2.2.1; omega
    have hn'l := HF.out.2.2.2.2.len
    obtain ⟨k2, hk2⟩ : ∃ k2, L2.length = k2 := ⟨_, rfl⟩
    rw [hk2] at hL2n hp hq
    rw [hk2]
    have hw78 : w7.heap.size < w8.heap.size := by rw [hub]; exact HF.out.2.1.lt
    go_upto_region 15 with fail
    try rw [hw8]
    clear hw8 hw78
    have HLie := hid (HF.out.2.2.2.2.below (al w8 (.cells #[] 52))).lies
    go_wp2_with (at_builtin; refine wpList_append_nodes (by rfl) _ _ rfl w8.heap.size 0 n' 0 c' (some ⟨w8.heap.size, 0, none⟩) s' [] L3 rfl (own_new w8) rfl HLie.out hn'l (by omega) (by simp) ?_)
    intro a7 c7 w11 hown hb
    try simp only [Nat.zero_add, List.nil_append] at hown
    have hb2 := (al w8 (.cells #[] 52)).trans hb
    have HR := hid (show OwnN w11 w8.heap.size a7 n' c7 L3 ∧ AAt w11 tb t.2.1 (p : Int) (q : Int) t.2.2.2.2 ∧ AAt w11 ub t.2.1 (p3 : Int) (q3 : Int) t.2.2.2.2 ∧ LiesN w11 s5 L2 ∧ Below w.heap.size w w11 from ⟨hown, HF.out.1.below hb2, HF.out.2.1.below hb2, HF.out.2.2.1.below hb2, HF.out.2.2.2.1.trans (hb2.mono HF.out.2.2.2.1.size)⟩)
    have hsz : w8.heap.size ≤ w11.heap.size := hb2.size
    have htb8 := HF.out.1.lt
    have hub8 := HF.out.2.1.lt
    have HI2 := hid (rinto_any w8.heap.size n' c7 a7 L3 s5 k2 c5 L2 hk2 HM.out.1.row HM.out.1.ok HM3.out.1.row HM3.out.1.once HM3.out.1.ok (by omega) w11 HR.out.2.2.2.1 hsz (fun h0 B hB => by
      obtain ⟨b', o', e, hh⟩ := HF.out.2.2.1.ly (by rw [hk2]; exact h0)
      rw [e] at hB
      injection hB with hB; subst hB; exact hh.1) HR.out.1)
    have hkp : TM.plc L3 L2 p = p3 := (TM.plc_of_tr HM.out.1.row HM.out.1.ok HM3.out.1.row HM3.out.1.once HM3.out.1.ok (by omega) (by omega) hp3).2 (by rw [hpt, hpt3])
    have hkq : TM.plc L3 L2 q = q3 := (TM.plc_of_tr HM.out.1.row HM.out.1.ok HM3.out.1.row HM3.out.1.once HM3.out.1.ok (by omega) (by omega) hq3).2 (by rw [hqt, hqt3])
    have hwn : w.heap.size ≤ w8.heap.size := HF.out.2.2.2.1.size
    clear hown hb hb2 HLie HF
    try simp only [Nat.zero_add]
    go_wp2_with fail
    refine HI2.out.mono ?_
    rintro e1 w12 ⟨a8, m8, c8, rfl, _, hRp, hg, hat8⟩
    have hb12 : ∀ z, blk a7 = some z → w8.heap.size ≤ z := fun z hz => by
      obtain ⟨A', hA', e⟩ := blk_at hz
      have h1 := (HR.out.1.at A' hA').1
      omega
    have HFn := hid (show Below w.heap.size w w12 from HR.out.2.2.2.2.grown hg HR.out.2.2.2.2.size (fun z hz => Nat.le_trans hwn (hb12 z hz)))
    have hT := HR.out.2.1.grown hg (fun e => by have := hb12 tb e.symm; omega)
    have hU := HR.out.2.2.1.grown hg (fun e => by have := hb12 ub e.symm; omega)
    obtain ⟨t0, t1, t2, t3, tf⟩ := hT.cells
    obtain ⟨u0, u1, u2, u3, uf⟩ := hU.cells
    have xp := hRp.cell p hp
    have xq := hRp.cell q hq
    rw [hkp] at xp
    rw [hkq] at xq
    have ip : (p : Int) < (k2 : Int) := by omega
    have iq : (q : Int) < (k2 : Int) := by omega
    have g1 : (t.2.1 == t.2.1) = true := beq_self_eq_true _
    have g2 : ((p3 : Int) == (p3 : Int)) = true := beq_self_eq_true _
    have g3 : ((q3 : Int) == (q3 : Int)) = true := beq_self_eq_true _
    have g4 : (t.2.2.2.2 == t.2.2.2.2) = true := beq_self_eq_true _
    clear hRp hg hat8 HI2 hkp hkq HR hT hU hb12
    go_wp2
    go_region
    go_wp2
    go_ret
    exact ⟨rfl, bdrewA HFn.out⟩
  · have d0 : (((t.1 : Nat) : Int) != ((t.1 : Nat) : Int)) = false := bne_self_eq_false _
    have d1 : (((t.1 : Nat) : Int) != 1) = true := bne_iff_ne.2 (by omega)
    have HFn := hid (show Below w.heap.size w w8 from HF.out.2.2.2.1)
    go_wp2
    go_ret
    exact ⟨rfl, HFn.out⟩
theorem amake_law (hAw : Aw13) {Pl : PoolIs} (hPl : PoolOk Pl) (hKm : KmOk Pl) (hPa : PfOk Pl) (hKa : KmArg Pl) (hKr : KmRange Pl) (A : Option Addr) (cap : Nat) (o a b : Int) (nt : Bool) (l : List TM.N) (hcap : l.length ≤ cap) (wo : (Lit.int .i64 o).wf = true) (wx : (Lit.int .i64 a).wf = true) (wy : (Lit.int .i64 b).wf = true) (ok : ∀ x ∈ l, TM.okN x) (w : World) (hl : LiesN w A l) :
    Calls Try.prog 4 #[.slice A l.length cap, .agg #[.int .i64 o, .int .i64 a, .int .i64 b, .bool nt]] w fun e w' => e = .returned (.bool true) ∧ Below w.heap.size w w' := by
  by_cases h : 60 < l.length
  · exact amake_big hAw A l.length cap o a b nt h w
  · cases hr : TM.rowB l with
    | false => exact amake_bad hAw A l.length cap o a b nt l rfl (by omega) ok hr w hl
    | true =>
      obtain ⟨L, hL⟩ : ∃ L, TM.pl [] l l.length = L := ⟨_, rfl⟩
      have hrow : TM.Row L := by
        rw [← hL]
        exact (TM.pl_inv (TM.row_iff.1 hr) ok TM.row_nil TM.once_nil (fun x hx => (by cases hx)) (by simp; omega) l.length (Nat.le_refl _)).2.1
      obtain ⟨q, hq⟩ : ∃ q, TM.chkA L o a b = q := ⟨_, rfl⟩
      by_cases hq0 : q = 0
      · subst hq0
        unfold TM.chkA at hq
        rw [if_pos (TM.row_iff.2 hrow)] at hq
        cases ho : TM.isQ o with
        | false => rw [ho, if_neg (by decide)] at hq; exact absurd hq (by decide)
        | true =>
          rw [ho, if_pos rfl] at hq
          have hin : ¬ (a < 0 ∨ (L.length : Int) ≤ a ∨ b < 0 ∨ (L.length : Int) ≤ b) := fun e => by rw [if_pos e] at hq; exact absurd hq (by decide)
          obtain ⟨a', rfl⟩ : ∃ a' : Nat, a = a' := ⟨a.toNat, by omega⟩
          obtain ⟨b', rfl⟩ : ∃ b' : Nat, b = b' := ⟨b.toNat, by omega⟩
          exact amake_good hAw hPl hKm hPa A l.length cap o a' b' nt l rfl (by omega) ok hr ho (fun L' hL' => by rw [← hL', hL]; omega) w hl
      · refine amake_none hAw hPl A l.length cap o a b nt l rfl (by omega) ok hr q hq0 (fun L' hL' => by rw [← hL', hL]; exact hq) (fun L' hL' W F v hP => ?_) w hl
        have hok' : ∀ x ∈ L', TM.okN x := by
          rw [← hL']
          exact (TM.pl_inv (TM.row_iff.1 hr) ok TM.row_nil TM.once_nil (fun x hx => (by cases hx)) (by simp; omega) l.length (Nat.le_refl _)).2.2.2.1
        rw [← hL] at hrow hq
        rw [hL'] at hrow hq
        unfold TM.chkA at hq
        rw [if_pos (TM.row_iff.2 hrow)] at hq
        cases ho : TM.isQ o with
        | false => rw [ho, if_neg (by decide)] at hq; rw [← hq]; exact hKa W F v L' o a b nt hP ho wo wx wy
        | true =>
          rw [ho, if_pos rfl] at hq
          by_cases hin : a < 0 ∨ (L'.length : Int) ≤ a ∨ b < 0 ∨ (L'.length : Int) ≤ b
          · rw [if_pos hin] at hq; rw [← hq]; exact hKr W F v L' o a b nt hP hok' ho wx wy hin
          · rw [if_neg hin] at hq; exact absurd hq.symm hq0
end Go.Proofs.Ytkeigicobcjleaa.TB
