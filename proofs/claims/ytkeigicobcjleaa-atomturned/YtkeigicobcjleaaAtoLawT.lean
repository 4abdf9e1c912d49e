/-
  The walk of the statement AtomTurned, over what the program's own functions answer.
-/
import Derived.Test.YtkeigicobcjleaaAtoMade
import Derived.Test.YtkeigicobcjleaaAtoRefE
import Derived.Test.YtkeigicobcjleaaAtoRec
import Derived.Test.YtkeigicobcjleaaAtoEq
namespace Go.Proofs.Ytkeigicobcjleaa.TB
open Go.ChangeShapes Go.WideShapes Go.ChangeAt Go.RowKit
open Go.Sort hiding Below
set_option linter.unusedVariables false
set_option maxRecDepth 100000

set_option maxHeartbeats 3200000 in
set_option maxRecDepth 1000000 in
theorem turnd_big (hAw : Aw13) (A : Option Addr) (n cap : Nat) (o a b : Int) (nt : Bool) (hn : 60 < n) (w : World) :
    Calls Try.prog 6 #[.slice A n cap, .agg #[.int .i64 o, .int .i64 a, .int .i64 b, .bool nt]] w fun e w' => e = .returned (.bool true) ∧ Below w.heap.size w w' := by
  have hd : decide (60 < (n : Int)) = true := decide_eq_true (by omega)
  have HAw := hid hAw
  have hA0 := AAt.new w o a b nt
  have hb0 := al w (.cells #[.int .i64 o, .int .i64 a, .int .i64 b, .bool nt] 24)
  obtain ⟨w0, hw0⟩ : ∃ w0, w.alloc (.cells #[.int .i64 o, .int .i64 a, .int .i64 b, .bool nt] 24) = w0 := ⟨_, rfl⟩
  rw [hw0] at hA0 hb0
  have HA := hid hA0
  have HB := hid hb0
  clear hA0 hb0
  clear hn hAw
  go_enter Try.func6, Try.ntmps6
  go_wp2_with fail
  try rw [hw0]
  clear hw0
  refine (HAw.out _).mono ?_
  rintro e1 w1 ⟨rfl, hb⟩
  replace HA := hid (HA.out.below hb)
  replace HB := stp HB hb
  clear hb
  go_wp2_with fail
  refine (HAw.out _).mono ?_
  rintro e w2 ⟨rfl, hb⟩
  replace HB := stp HB hb
  clear hb
  go_wp2
  go_ret
  exact ⟨rfl, HB.out⟩
set_option maxHeartbeats 3200000 in
set_option maxRecDepth 1000000 in
theorem turnd_bad (hAw : Aw13) (A : Option Addr) (n cap : Nat) (o a b : Int) (nt : Bool) (l : List TM.N) (hln : l.length = n) (hn : n ≤ 60) (ok : ∀ x ∈ l, TM.okN x) (hr : TM.rowB l = false) (w : World) (hl : LiesN w A l) :
    Calls Try.prog 6 #[.slice A n cap, .agg #[.int .i64 o, .int .i64 a, .int .i64 b, .bool nt]] w fun e w' => e = .returned (.bool true) ∧ Below w.heap.size w w' := by
  have hd : decide (60 < (n : Int)) = false := decide_eq_false (by omega)
  have HAw := hid hAw
  have HRt := hid (fun W (h : LiesN W A l) => rrow_any A n cap l hln (by omega) ok W h false hr)
  have HL := hid hl
  have hA0 := AAt.new w o a b nt
  have hb0 := al w (.cells #[.int .i64 o, .int .i64 a, .int .i64 b, .bool nt] 24)
  obtain ⟨w0, hw0⟩ : ∃ w0, w.alloc (.cells #[.int .i64 o, .int .i64 a, .int .i64 b, .bool nt] 24) = w0 := ⟨_, rfl⟩
  rw [hw0] at hA0 hb0
  have HA := hid hA0
  have HB := hid hb0
  clear hA0 hb0
  clear hn hAw hln ok hr hl
  go_enter Try.func6, Try.ntmps6
  go_wp2_with fail
  try rw [hw0]
  clear hw0
  refine (HAw.out _).mono ?_
  rintro e1 w1 ⟨rfl, hb⟩
  replace HA := hid (HA.out.below hb)
  replace HB := stp HB hb
  clear hb
  go_wp2_with fail
  refine (HRt.out _ (HL.out.below HB.out)).mono ?_
  rintro e w2 ⟨rfl, hb⟩
  replace HB := stp HB hb
  clear hb
  go_wp2_with fail
  refine (HAw.out _).mono ?_
  rintro e w3 ⟨rfl, hb⟩
  replace HB := stp HB hb
  clear hb
  go_wp2
  go_ret
  exact ⟨rfl, HB.out⟩
set_option maxHeartbeats 6400000 in
set_option maxRecDepth 1000000 in
theorem turnd_none (hAw : Aw13) (A : Option Addr) (n cap : Nat) (o a b : Int) (nt : Bool) (l : List TM.N) (hln : l.length = n) (hn : n ≤ 60) (ok : ∀ x ∈ l, TM.okN x) (hrb : TM.rowB l = true) (q : Int) (hq : q ≠ 0) (hchk : ∀ L : List TM.N, TM.pl [] l n = L → TM.chkA L o a b = q) (w : World) (hl : LiesN w A l) :
    Calls Try.prog 6 #[.slice A n cap, .agg #[.int .i64 o, .int .i64 a, .int .i64 b, .bool nt]] w fun e w' => e = .returned (.bool true) ∧ Below w.heap.size w w' := by
  have hqd : (q != 0) = true := bne_iff_ne.2 hq
  have hd : decide (60 < (n : Int)) = false := decide_eq_false (by omega)
  have hr := TM.row_iff.1 hrb
  have HAw := hid hAw
  have HRt := hid (fun W (h : LiesN W A l) => rrow_any A n cap l hln (by omega) ok W h true hrb)
  have HI1 := hid (fun W (h : LiesN W A l) => rinto_any W.heap.size 0 0 none [] A n cap l hln hr ok TM.row_nil TM.once_nil (fun x hx => (by cases hx)) (by simp; omega) W h (Nat.le_refl _) (fun h0 B hB => by
    obtain ⟨b, o, rfl, hh⟩ := h.ly (by omega)
    injection hB with hB; subst hB; exact hh.1) (OwnN.nil _ _))
  have hinv := TM.pl_inv hr ok TM.row_nil TM.once_nil (fun x hx => (by cases hx)) (by simp; omega) n (by rw [hln]; exact Nat.le_refl _)
  obtain ⟨L, hL⟩ : ∃ L, TM.pl [] l n = L := ⟨_, rfl⟩
  rw [hL] at hinv
  have HI1' := hid (fun W h => by have := HI1.out W h; rw [hL] at this; exact this)
  obtain ⟨i1, i2, i3, i4, _⟩ := hinv
  simp only [List.length_nil, Nat.zero_add] at i1
  replace hchk := hchk L hL
  have HH := hid hl
  have hA0 := AAt.new w o a b nt
  have hb0 := al w (.cells #[.int .i64 o, .int .i64 a, .int .i64 b, .bool nt] 24)
  obtain ⟨w0, hw0⟩ : ∃ w0, w.alloc (.cells #[.int .i64 o, .int .i64 a, .int .i64 b, .bool nt] 24) = w0 := ⟨_, rfl⟩
  rw [hw0] at hA0 hb0
  have HA := hid hA0
  have HB := hid hb0
  clear hA0 hb0
  have HL0 := hid (HH.out.below HB.out)
  clear hAw hln ok hrb hr hl HI1 hL
  go_enter Try.func6, Try.ntmps6
  go_wp2_with fail
  try rw [hw0]
  clear hw0
  refine (HAw.out _).mono ?_
  rintro e1 w1 ⟨rfl, hb⟩
  replace HA := hid (HA.out.below hb)
  replace HB := stp HB hb
  clear hb
  clear HAw
  go_wp2_with fail
  refine (HRt.out _ (HH.out.below HB.out)).mono ?_
  rintro e1 w2 ⟨rfl, hb⟩
  replace HA := hid (HA.out.below hb)
  replace HB := stp HB hb
  clear hb HRt
  go_wp2_with fail
  refine (HI1'.out _ (HH.out.below HB.out)).mono ?_
  rintro e1 w3 ⟨s, m, c, rfl, hO, _, hg, _⟩
  have hb3 := gbelow hg (Nat.le_refl _) (fun k hk => by cases hk)
  replace HA := hid (HA.out.below hb3)
  have hlm := hO.len
  have hmc := hO.cap
  have HLs := hid hO.lies
  have HO := hid hO
  have hs3 : w2.heap.size ≤ w3.heap.size := hb3.size
  have HSB := hid (show ∀ k, blk s = some k → w2.heap.size ≤ k ∧ k < w3.heap.size from fun k hk => by
    obtain ⟨A', hA', e⟩ := blk_at hk
    have := HO.out.at A' hA'
    omega)
  have HW2 := hid (show w.heap.size ≤ w2.heap.size from HB.out.size)
  replace HB := stp HB hb3
  have HCk := hid (fun W (h : LiesN W s L) => rcheckA s m c L hlm (by omega) i4 o a b nt W h)
  rw [hchk] at HCk
  clear hO hg hb3 HI1' HH HL0
  obtain ⟨a0, a1, a2, a3, af⟩ := HA.out.cells
  have hla := HA.out.load
  go_wp2_with fail
  refine (HCk.out _ HLs.out).mono ?_
  rintro e1 w4 ⟨rfl, hb⟩
  replace HA := hid (HA.out.below hb)
  replace HLs := hid (HLs.out.below hb)
  replace HO := hid (HO.out.below hb)
  have hs4 : w2.heap.size ≤ w4.heap.size := Nat.le_trans hs3 hb.size
  have hs34 : w3.heap.size ≤ w4.heap.size := hb.size
  replace HB := stp HB hb
  clear hb HCk a0 a1 a2 a3 af hla
  go_wp2
  go_ret
  exact ⟨rfl, HB.out⟩
set_option maxHeartbeats 6400000 in
set_option maxRecDepth 1000000 in
theorem turnd_good (hAw : Aw13) {Pl : PoolIs} (hPl : PoolOk Pl) (hKm : KmOk Pl) (hPa : PfOk Pl) (A : Option Addr) (n cap : Nat) (o : Int) (a b : Nat) (nt : Bool) (l : List TM.N) (hln : l.length = n) (hn : n ≤ 60) (ok : ∀ x ∈ l, TM.okN x) (hrb : TM.rowB l = true) (ho : TM.isQ o = true) (hab : ∀ L : List TM.N, TM.pl [] l n = L → a < L.length ∧ b < L.length) (w : World) (hl : LiesN w A l) :
    Calls Try.prog 6 #[.slice A n cap, .agg #[.int .i64 o, .int .i64 (a : Int), .int .i64 (b : Int), .bool nt]] w fun e w' => e = .returned (.bool true) ∧ Below w.heap.size w w' := by
  have hchk : ∀ L : List TM.N, TM.pl [] l n = L → TM.chkA L o a b = 0 := fun L hL => by
    obtain ⟨h1, h2⟩ := hab L hL
    have hrow : TM.Row L := by
      rw [← hL]
      exact (TM.pl_inv (TM.row_iff.1 hrb) ok TM.row_nil TM.once_nil (fun x hx => (by cases hx)) (by simp; omega) n (by rw [hln]; exact Nat.le_refl _)).2.1
    unfold TM.chkA
    rw [if_pos (TM.row_iff.2 hrow), if_pos ho, if_neg (by omega)]
  have hd : decide (60 < (n : Int)) = false := decide_eq_false (by omega)
  have hr := TM.row_iff.1 hrb
  have HAw := hid hAw
  have HRt := hid (fun W (h : LiesN W A l) => rrow_any A n cap l hln (by omega) ok W h true hrb)
  have HI1 := hid (fun W (h : LiesN W A l) => rinto_any W.heap.size 0 0 none [] A n cap l hln hr ok TM.row_nil TM.once_nil (fun x hx => (by cases hx)) (by simp; omega) W h (Nat.le_refl _) (fun h0 B hB => by
    obtain ⟨b, o, rfl, hh⟩ := h.ly (by omega)
    injection hB with hB; subst hB; exact hh.1) (OwnN.nil _ _))
  have hinv := TM.pl_inv hr ok TM.row_nil TM.once_nil (fun x hx => (by cases hx)) (by simp; omega) n (by rw [hln]; exact Nat.le_refl _)
  obtain ⟨L, hL⟩ : ∃ L, TM.pl [] l n = L := ⟨_, rfl⟩
  rw [hL] at hinv
  have HI1' := hid (fun W h => by have := HI1.out W h; rw [hL] at this; exact this)
  obtain ⟨i1, i2, i3, i4, _⟩ := hinv
  simp only [List.length_nil, Nat.zero_add] at i1
  replace hchk := hchk L hL
  replace hab := hab L hL
  have HH := hid hl
  have hA0 := AAt.new w o a b nt
  have hb0 := al w (.cells #[.int .i64 o, .int .i64 a, .int .i64 b, .bool nt] 24)
  obtain ⟨w0, hw0⟩ : ∃ w0, w.alloc (.cells #[.int .i64 o, .int .i64 a, .int .i64 b, .bool nt] 24) = w0 := ⟨_, rfl⟩
  rw [hw0] at hA0 hb0
  have HA := hid hA0
  have HB := hid hb0
  clear hA0 hb0
  have HL0 := hid (HH.out.below HB.out)
  clear hAw hln ok hrb hr hl HI1 hL
  go_enter Try.func6, Try.ntmps6
  go_wp2_with fail
  try rw [hw0]
  clear hw0
  refine (HAw.out _).mono ?_
  rintro e1 w1 ⟨rfl, hb⟩
  replace HA := hid (HA.out.below hb)
  replace HB := stp HB hb
  clear hb
  clear HAw
  go_wp2_with fail
  refine (HRt.out _ (HH.out.below HB.out)).mono ?_
  rintro e1 w2 ⟨rfl, hb⟩
  replace HA := hid (HA.out.below hb)
  replace HB := stp HB hb
  clear hb HRt
  go_wp2_with fail
  refine (HI1'.out _ (HH.out.below HB.out)).mono ?_
  rintro e1 w3 ⟨s, m, c, rfl, hO, _, hg, _⟩
  have hb3 := gbelow hg (Nat.le_refl _) (fun k hk => by cases hk)
  replace HA := hid (HA.out.below hb3)
  have hlm := hO.len
  have hmc := hO.cap
  have HLs := hid hO.lies
  have HO := hid hO
  have hs3 : w2.heap.size ≤ w3.heap.size := hb3.size
  have HSB := hid (show ∀ k, blk s = some k → w2.heap.size ≤ k ∧ k < w3.heap.size from fun k hk => by
    obtain ⟨A', hA', e⟩ := blk_at hk
    have := HO.out.at A' hA'
    omega)
  have HW2 := hid (show w.heap.size ≤ w2.heap.size from HB.out.size)
  replace HB := stp HB hb3
  have HCk := hid (fun W (h : LiesN W s L) => rcheckA s m c L hlm (by omega) i4 o a b nt W h)
  rw [hchk] at HCk
  clear hO hg hb3 HI1' HH HL0
  obtain ⟨a0, a1, a2, a3, af⟩ := HA.out.cells
  have hla := HA.out.load
  go_wp2_with fail
  refine (HCk.out _ HLs.out).mono ?_
  rintro e1 w4 ⟨rfl, hb⟩
  replace HA := hid (HA.out.below hb)
  replace HLs := hid (HLs.out.below hb)
  replace HO := hid (HO.out.below hb)
  have hs4 : w2.heap.size ≤ w4.heap.size := Nat.le_trans hs3 hb.size
  have hs34 : w3.heap.size ≤ w4.heap.size := hb.size
  replace HB := stp HB hb
  clear hb HCk a0 a1 a2 a3 af hla
  have HMd := hid (fun W (h : LiesN W s L) => lmade hPl hKm hPa s m c L hlm (by omega) i2 i3 i4 o ho a b (by omega) (by omega) nt W h)
  have HLL := hid (And.intro i2 (And.intro i3 (And.intro i4 (And.intro ho (And.intro hab hlm)))))
  clear hchk
  obtain ⟨a0, a1, a2, a3, af⟩ := HA.out.cells
  have HMd2 := hid (fun W (h : LiesN W s L) => lmade hPl hKm hPa s m c L hlm (by omega) i2 i3 i4 o ho a b (by omega) (by omega) (!nt) W h)
  rw [TM.mkA_not] at HMd2
  clear hPl hKm hPa
  obtain ⟨t, ht⟩ : ∃ t, TM.mkA o (TM.tr L a) (TM.tr L b) nt = t := ⟨_, rfl⟩
  have hOk := TM.mkA_fix ho (TM.tr_okT i2 i4 a (by omega)) (TM.tr_okT i2 i4 b (by omega)) nt
  rw [ht] at HMd HMd2 hOk
  have HOk := hid hOk
  have Ht := hid ht
  clear ht hOk
  go_wp2_with fail
  refine (HMd.out _ HLs.out).mono ?_
  rintro e1 w5 ⟨L2, o2, p, q, n2, s5, c5, rfl, hM, hML, hc5, hl5, hb, hs5⟩
  have hAl := al w5 (.cells #[.int .i64 o2, .int .i64 (p : Int), .int .i64 (q : Int), .bool n2] 24)
  have hT := AAt.new w5 o2 (p : Int) (q : Int) n2
  have hbb := hb.trans (hAl.mono hb.size)
  replace HA := hid (HA.out.below hbb)
  replace HLs := hid (HLs.out.below hbb)
  replace HB := stp HB hbb
  have hl5' := hl5.below hAl
  have hs5b : w4.heap.size ≤ w5.heap.size := hb.size
  obtain ⟨w6, hw6⟩ : ∃ w6, w5.alloc (.cells #[.int .i64 o2, .int .i64 (p : Int), .int .i64 (q : Int), .bool n2] 24) = w6 := ⟨_, rfl⟩
  rw [hw6] at hT HA HLs HB hl5' hAl
  have hs56 : w5.heap.size ≤ w6.heap.size := hAl.size
  have HT := hid hT
  have HM := hid (And.intro hM hML)
  have HL5 := hid (And.intro hl5' hs5)
  obtain ⟨tb, htb⟩ : ∃ tb, w5.heap.size = tb := ⟨_, rfl⟩
  rw [htb] at HT hs5b hs56
  clear hM hML hl5 hb hs5 hAl hT hbb hl5' a0 a1 a2 a3 af HMd HO
  obtain ⟨a0, a1, a2, a3, af⟩ := HA.out.cells
  go_wp2_with fail
  try rw [hw6]
  clear hw6
  refine (HMd2.out _ HLs.out).mono ?_
  rintro e1 w7 ⟨L3, o3, p3, q3, n3, s6, c6, rfl, hM3, hML3, hc6, hl6, hb, hs6⟩
  have hAl := al w7 (.cells #[.int .i64 o3, .int .i64 (p3 : Int), .int .i64 (q3 : Int), .bool n3] 24)
  have hU := AAt.new w7 o3 (p3 : Int) (q3 : Int) n3
  have hbb := hb.trans (hAl.mono hb.size)
  replace HT := hid (HT.out.below hbb)
  replace HB := stp HB hbb
  have hl5' := HL5.out.1.below hbb
  have hl6' := hl6.below hAl
  obtain ⟨w8, hw8⟩ : ∃ w8, w7.alloc (.cells #[.int .i64 o3, .int .i64 (p3 : Int), .int .i64 (q3 : Int), .bool n3] 24) = w8 := ⟨_, rfl⟩
  rw [hw8] at hU HT HB hl5' hl6' hAl
  have hw78 : w7.heap.size < w8.heap.size := hU.lt
  obtain ⟨ub, hub⟩ : ∃ ub, w7.heap.size = ub := ⟨_, rfl⟩
  rw [hub] at hU hw78
  have HU := hid hU
  have HM3 := hid (And.intro hM3 hML3)
  have HLL2 := hid (And.intro hl5' hl6')
  clear hM3 hML3 hl6 hb hs6 hAl hU hbb hl5' hl6' HMd2 HL5 HLs HA a0 a1 a2 a3 af
  have htr : ((TM.trnA t).1 = 1 ↔ t.1 = 1) := by
    unfold TM.trnA
    by_cases e : t.1 = 1
    · rw [if_pos e]; simp [e]
    · rw [if_neg e]; by_cases h : t.1 = 2 <;> simp [h, e]
  by_cases e : t.1 = 1
  · have e3 := htr.2 e
    have d1 : (((t.1 : Nat) : Int) != 1) = false := by rw [e]; rfl
    have d2 : (((t.1 : Nat) : Int) == 1) = true := by rw [e]; rfl
    have d3 : ((((TM.trnA t).1 : Nat) : Int) == 1) = true := by rw [e3]; rfl
    obtain ⟨rfl, rfl, hp, hq, hpt, hqt⟩ := HM.out.1.op e
    obtain ⟨ho3, hn3, hp3, hq3, hpt3, hqt3⟩ := HM3.out.1.op e3
    have hT1 : (TM.trnA t).2.1 = t.2.1 ∧ (TM.trnA t).2.2.1 = t.2.2.1 ∧ (TM.trnA t).2.2.2.1 = t.2.2.2.1 ∧ (TM.trnA t).2.2.2.2 = !t.2.2.2.2 := by
      unfold TM.trnA; rw [if_pos e]; exact ⟨rfl, rfl, rfl, rfl⟩
    rw [hT1.1] at ho3
    rw [hT1.2.2.2] at hn3
    rw [hT1.2.1] at hpt3
    rw [hT1.2.2.1] at hqt3
    subst ho3 hn3
    have hlm2 := HLL.out.2.2.2.2.2
    have hL2n : L2.length ≤ 200 := by have := HM.out.2; omega
    have hL3n : L3.length ≤ 200 := by have := HM3.out.2; omega
    obtain ⟨k2, hk2⟩ : ∃ k2, L2.length = k2 := ⟨_, rfl⟩
    obtain ⟨k3, hk3⟩ : ∃ k3, L3.length = k3 := ⟨_, rfl⟩
    have hblk : ∀ (x : Option Addr) (l : List TM.N), LiesN w8 x l → 0 < l.length → ∀ B, x = some B → B.block < w8.heap.size := fun x l h h0 B hB => by
      obtain ⟨b', o', e, hh⟩ := h.ly h0
      rw [e] at hB
      injection hB with hB; subst hB; exact hh.1
    have HI1 := hid (rinto_any w8.heap.size 0 0 none [] s5 k2 c5 L2 hk2 HM.out.1.row HM.out.1.ok TM.row_nil TM.once_nil (fun x hx => (by cases hx)) (by simp; omega) w8 HLL2.out.1 (Nat.le_refl _) (fun h0 B hB => hblk s5 L2 HLL2.out.1 (by omega) B hB) (OwnN.nil _ _))
    have hinv := TM.pl_inv HM.out.1.row HM.out.1.ok TM.row_nil TM.once_nil (fun x hx => (by cases hx)) (by simp; omega) k2 (by omega)
    have hin := TM.into_tr HM.out.1.row HM.out.1.ok TM.row_nil TM.once_nil (fun x hx => (by cases hx)) (by simp; omega) (k := k2) (by omega)
    obtain ⟨P, hP⟩ : ∃ P, TM.pl [] L2 k2 = P := ⟨_, rfl⟩
    rw [hP] at HI1 hinv hin
    obtain ⟨j1, j2, j3, j4, j5, _⟩ := hinv
    simp only [List.length_nil, Nat.zero_add] at j1
    have hB6 := fun (h0 : 0 < k3) B hB => hblk s6 L3 HLL2.out.2 (by omega) B hB
    rw [hk2]
    rw [hk3]
    have htb8 := HT.out.lt
    go_wp2_with fail
    try rw [hw8]
    clear hw8
    refine HI1.out.mono ?_
    rintro e1 w9 ⟨a8, m8, c8, rfl, hO8, hRp, hg, hat8⟩
    have hb9 := gbelow hg (Nat.le_refl _) (fun k hk => by cases hk)
    have hm8 := hO8.len
    have hR9 := hid (show AAt w9 tb t.2.1 (p : Int) (q : Int) t.2.2.2.2 ∧ AAt w9 ub t.2.1 (p3 : Int) (q3 : Int) (!t.2.2.2.2) ∧ LiesN w9 s6 L3 ∧ Below w.heap.size w w9 from ⟨HT.out.below hb9, HU.out.below hb9, HLL2.out.2.below hb9, (stp HB hb9).out⟩)
    have HI2 := hid (rinto_any w8.heap.size m8 c8 a8 P s6 k3 c6 L3 hk3 HM3.out.1.row HM3.out.1.ok j2 j3 j4 (by omega) w9 hR9.out.2.2.1 hb9.size hB6 hO8)
    have hp1 : TM.plc [] L2 p = TM.plc P L3 p3 := by
      refine ((TM.plc_of_tr HM3.out.1.row HM3.out.1.ok j2 j3 j4 (by omega) (by omega) (j5 p (by omega)).1).2 ?_).symm
      rw [hin p (by omega), hpt, hpt3]
    have hq1 : TM.plc [] L2 q = TM.plc P L3 q3 := by
      refine ((TM.plc_of_tr HM3.out.1.row HM3.out.1.ok j2 j3 j4 (by omega) (by omega) (j5 q (by omega)).1).2 ?_).symm
      rw [hin q (by omega), hqt, hqt3]
    go_wp2_with fail
    refine HI2.out.mono ?_
    rintro e1 w10 ⟨a9, m9, c9, rfl, _, hRq, hg2, hat9⟩
    have hne8 : ∀ z, blk a8 = some z → w8.heap.size < z := fun z hz => by
      rcases hat8 z hz with h | h
      · cases h
      · exact h
    have hT := hR9.out.1.grown hg2 (fun e => by have := hne8 tb e.symm; omega)
    have hU := hR9.out.2.1.grown hg2 (fun e => by have := hne8 ub e.symm; omega)
    have hRp2 := hRp.grown hg2 (fun e => by have := hne8 _ e.symm; omega)
    have hwn : w.heap.size ≤ w8.heap.size := HB.out.size
    have HFn := hid (show Below w.heap.size w w10 from hR9.out.2.2.2.grown hg2 hR9.out.2.2.2.size (fun z hz => by have := hne8 z hz; omega))
    obtain ⟨t0, t1, t2, t3, tf⟩ := hT.cells
    obtain ⟨u0, u1, u2, u3, uf⟩ := hU.cells
    have xp := hRp2.cell p (by omega)
    have xq := hRp2.cell q (by omega)
    have yp := hRq.cell p3 (by omega)
    have yq := hRq.cell q3 (by omega)
    rw [hp1] at xp
    rw [hq1] at xq
    obtain ⟨vp, hvp⟩ : ∃ z, TM.plc P L3 p3 = z := ⟨_, rfl⟩
    obtain ⟨vq, hvq⟩ : ∃ z, TM.plc P L3 q3 = z := ⟨_, rfl⟩
    rw [hvp] at xp yp
    rw [hvq] at xq yq
    have ip : (p : Int) < (k2 : Int) := by omega
    have iq : (q : Int) < (k2 : Int) := by omega
    have ip3 : (p3 : Int) < (k3 : Int) := by omega
    have iq3 : (q3 : Int) < (k3 : Int) := by omega
    have g1 : (t.2.1 == t.2.1) = true := beq_self_eq_true _
    have g2 : ((vp : Int) == (vp : Int)) = true := beq_self_eq_true _
    have g3 : ((vq : Int) == (vq : Int)) = true := beq_self_eq_true _
    have g4 : (t.2.2.2.2 != (!t.2.2.2.2)) = true := by cases t.2.2.2.2 <;> rfl
    clear hRp hg hat8 HI2 hp1 hq1 hvp hvq hRq hg2 hat9 hne8 hT hU hRp2 hR9 hin j5 hB6 hblk HI1 hT1 HM HM3
    go_wp2
    go_region
    go_wp2
    go_ret
    exact ⟨rfl, bdrewA HFn.out⟩
  · have e3 : ¬ (TM.trnA t).1 = 1 := fun h => e (htr.1 h)
    have d1 : (((t.1 : Nat) : Int) != 1) = true := bne_iff_ne.2 (by omega)
    have d2 : (((t.1 : Nat) : Int) == 1) = false := beq_eq_false_iff_ne.2 (by omega)
    have d3 : ((((TM.trnA t).1 : Nat) : Int) == 1) = false := beq_eq_false_iff_ne.2 (by omega)
    have d4 : (((t.1 : Nat) : Int) != (((TM.trnA t).1 : Nat) : Int)) = true := bne_iff_ne.2 (by
      have h2 := HOk.out.two e
      unfold TM.trnA
      rw [if_neg e]
      rcases h2 with h | h <;> rw [h] <;> decide)
    have HFn := HB
    clear htr
    go_wp2
    go_ret
    exact ⟨rfl, HFn.out⟩
theorem turnd_law (hAw : Aw13) {Pl : PoolIs} (hPl : PoolOk Pl) (hKm : KmOk Pl) (hPa : PfOk Pl) (A : Option Addr) (cap : Nat) (o a b : Int) (nt : Bool) (l : List TM.N) (hcap : l.length ≤ cap) (wo : (Lit.int .i64 o).wf = true) (wx : (Lit.int .i64 a).wf = true) (wy : (Lit.int .i64 b).wf = true) (ok : ∀ x ∈ l, TM.okN x) (w : World) (hl : LiesN w A l) :
    Calls Try.prog 6 #[.slice A l.length cap, .agg #[.int .i64 o, .int .i64 a, .int .i64 b, .bool nt]] w fun e w' => e = .returned (.bool true) ∧ Below w.heap.size w w' := by
  by_cases h : 60 < l.length
  · exact turnd_big hAw A l.length cap o a b nt h w
  · cases hr : TM.rowB l with
    | false => exact turnd_bad hAw A l.length cap o a b nt l rfl (by omega) ok hr w hl
    | true =>
      obtain ⟨L, hL⟩ : ∃ L, TM.pl [] l l.length = L := ⟨_, rfl⟩
      have hrow : TM.Row L := by
        rw [← hL]
        exact (TM.pl_inv (TM.row_iff.1 hr) ok TM.row_nil TM.once_nil (fun x hx => (by cases hx)) (by simp; omega) l.length (Nat.le_refl _)).2.1
      obtain ⟨q, hq⟩ : ∃ q, TM.chkA L o a b = q := ⟨_, rfl⟩
      by_cases hq0 : q = 0
      · subst hq0
        unfold TM.chkA at hq
        rw [if_pos (TM.row_iff.2 hrow)] at hq
        cases ho : TM.isQ o with
        | false => rw [ho, if_neg (by decide)] at hq; exact absurd hq (by decide)
        | true =>
          rw [ho, if_pos rfl] at hq
          have hin : ¬ (a < 0 ∨ (L.length : Int) ≤ a ∨ b < 0 ∨ (L.length : Int) ≤ b) := fun e => by rw [if_pos e] at hq; exact absurd hq (by decide)
          obtain ⟨a', rfl⟩ : ∃ a' : Nat, a = a' := ⟨a.toNat, by omega⟩
          obtain ⟨b', rfl⟩ : ∃ b' : Nat, b = b' := ⟨b.toNat, by omega⟩
          exact turnd_good hAw hPl hKm hPa A l.length cap o a' b' nt l rfl (by omega) ok hr ho (fun L' hL' => by rw [← hL', hL]; omega) w hl
      · exact turnd_none hAw A l.length cap o a b nt l rfl (by omega) ok hr q hq0 (fun L' hL' => by rw [← hL', hL]; exact hq) w hl
end Go.Proofs.Ytkeigicobcjleaa.TB
