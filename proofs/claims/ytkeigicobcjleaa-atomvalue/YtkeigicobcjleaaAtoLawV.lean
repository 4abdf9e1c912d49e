/-
  The walk of the statement AtomValue, over what the program's own functions answer.
-/
import Derived.Test.YtkeigicobcjleaaAtoMade
import Derived.Test.YtkeigicobcjleaaAtoRefE
import Derived.Test.YtkeigicobcjleaaAtoRec
namespace Go.Proofs.Ytkeigicobcjleaa.TB
open Go.ChangeShapes Go.WideShapes Go.ChangeAt Go.RowKit
open Go.Sort hiding Below
set_option linter.unusedVariables false
set_option maxRecDepth 100000

set_option maxHeartbeats 3200000 in
set_option maxRecDepth 1000000 in
theorem aval_big (hAw : Aw13) (A : Option Addr) (n cap : Nat) (o a b : Int) (nt : Bool) (r : List Int) (hk : R.okR r) (hn : 60 < n) (w : World) :
    Calls Try.prog 5 #[.slice A n cap, .agg #[.int .i64 o, .int .i64 a, .int .i64 b, .bool nt], .agg (RB.enc r)] w fun e w' => e = .returned (.bool true) ∧ Below w.heap.size w w' := by
  have hd : decide (60 < (n : Int)) = true := decide_eq_true (by omega)
  have HAw := hid hAw
  have hA0 := AAt.new w o a b nt
  have hb0 := al w (.cells #[.int .i64 o, .int .i64 a, .int .i64 b, .bool nt] 24)
  obtain ⟨wa, hwa⟩ : ∃ wa, w.alloc (.cells #[.int .i64 o, .int .i64 a, .int .i64 b, .bool nt] 24) = wa := ⟨_, rfl⟩
  rw [hwa] at hA0 hb0
  have hR0 := RB.Rec.new wa r hk.1
  have hb1 := al wa (.cells (RB.enc r) 27)
  obtain ⟨w0, hw0⟩ : ∃ w0, wa.alloc (.cells (RB.enc r) 27) = w0 := ⟨_, rfl⟩
  rw [hw0] at hR0 hb1
  have HA := hid (hA0.below hb1)
  have HB := hid (hb0.trans (hb1.mono hb0.size))
  have HRc := hid hR0
  have hXX := RB.lcf_eq
  have hsz16 := RB.enc_size hk.1
  clear hA0 hb0 hR0 hb1
  clear hn hAw
  go_enter Try.func5, Try.ntmps5
  go_wp2_with fail
  try rw [hw0]
  clear hw0 hwa
  refine (HAw.out _).mono ?_
  rintro e1 w1 ⟨rfl, hb⟩
  replace HA := hid (HA.out.below hb)
  replace HRc := hid (HRc.out.below hb HRc.out.lt)
  replace HB := stp HB hb
  clear hb
  go_wp2_with fail
  refine (HAw.out _).mono ?_
  rintro e w2 ⟨rfl, hb⟩
  replace HB := stp HB hb
  clear hb
  go_wp2
  go_ret
  exact ⟨rfl, HB.out⟩
set_option maxHeartbeats 3200000 in
set_option maxRecDepth 1000000 in
theorem aval_bad (hAw : Aw13) (A : Option Addr) (n cap : Nat) (o a b : Int) (nt : Bool) (r : List Int) (hk : R.okR r) (l : List TM.N) (hln : l.length = n) (hn : n ≤ 60) (ok : ∀ x ∈ l, TM.okN x) (hr : TM.rowB l = false) (w : World) (hl : LiesN w A l) :
    Calls Try.prog 5 #[.slice A n cap, .agg #[.int .i64 o, .int .i64 a, .int .i64 b, .bool nt], .agg (RB.enc r)] w fun e w' => e = .returned (.bool true) ∧ Below w.heap.size w w' := by
  have hd : decide (60 < (n : Int)) = false := decide_eq_false (by omega)
  have HAw := hid hAw
  have HRt := hid (fun W (h : LiesN W A l) => rrow_any A n cap l hln (by omega) ok W h false hr)
  have HL := hid hl
  have hA0 := AAt.new w o a b nt
  have hb0 := al w (.cells #[.int .i64 o, .int .i64 a, .int .i64 b, .bool nt] 24)
  obtain ⟨wa, hwa⟩ : ∃ wa, w.alloc (.cells #[.int .i64 o, .int .i64 a, .int .i64 b, .bool nt] 24) = wa := ⟨_, rfl⟩
  rw [hwa] at hA0 hb0
  have hR0 := RB.Rec.new wa r hk.1
  have hb1 := al wa (.cells (RB.enc r) 27)
  obtain ⟨w0, hw0⟩ : ∃ w0, wa.alloc (.cells (RB.enc r) 27) = w0 := ⟨_, rfl⟩
  rw [hw0] at hR0 hb1
  have HA := hid (hA0.below hb1)
  have HB := hid (hb0.trans (hb1.mono hb0.size))
  have HRc := hid hR0
  have hXX := RB.lcf_eq
  have hsz16 := RB.enc_size hk.1
  clear hA0 hb0 hR0 hb1
  clear hn hAw hln ok hr hl
  go_enter Try.func5, Try.ntmps5
  go_wp2_with fail
  try rw [hw0]
  clear hw0 hwa
  refine (HAw.out _).mono ?_
  rintro e1 w1 ⟨rfl, hb⟩
  replace HA := hid (HA.out.below hb)
  replace HRc := hid (HRc.out.below hb HRc.out.lt)
  replace HB := stp HB hb
  clear hb
  go_wp2_with fail
  refine (HRt.out _ (HL.out.below HB.out)).mono ?_
  rintro e w2 ⟨rfl, hb⟩
  replace HB := stp HB hb
  clear hb
  go_wp2_with fail
  refine (HAw.out _).mono ?_
  rintro e w3 ⟨rfl, hb⟩
  replace HB := stp HB hb
  clear hb
  go_wp2
  go_ret
  exact ⟨rfl, HB.out⟩
set_option maxHeartbeats 6400000 in
set_option maxRecDepth 1000000 in
theorem aval_none (hAw : Aw13) (A : Option Addr) (n cap : Nat) (o a b : Int) (nt : Bool) (r : List Int) (hk : R.okR r) (l : List TM.N) (hln : l.length = n) (hn : n ≤ 60) (ok : ∀ x ∈ l, TM.okN x) (hrb : TM.rowB l = true) (q : Int) (hq : q ≠ 0) (hchk : ∀ L : List TM.N, TM.pl [] l n = L → TM.chkA L o a b = q) (w : World) (hl : LiesN w A l) :
    Calls Try.prog 5 #[.slice A n cap, .agg #[.int .i64 o, .int .i64 a, .int .i64 b, .bool nt], .agg (RB.enc r)] w fun e w' => e = .returned (.bool true) ∧ Below w.heap.size w w' := by
  have hqd : (q != 0) = true := bne_iff_ne.2 hq
  have hd : decide (60 < (n : Int)) = false := decide_eq_false (by omega)
  have hr := TM.row_iff.1 hrb
  have HAw := hid hAw
  have HRt := hid (fun W (h : LiesN W A l) => rrow_any A n cap l hln (by omega) ok W h true hrb)
  have HI1 := hid (fun W (h : LiesN W A l) => rinto_any W.heap.size 0 0 none [] A n cap l hln hr ok TM.row_nil TM.once_nil (fun x hx => (by cases hx)) (by simp; omega) W h (Nat.le_refl _) (fun h0 B hB => by
    obtain ⟨b, o, rfl, hh⟩ := h.ly (by omega)
    injection hB with hB; subst hB; exact hh.1) (OwnN.nil _ _))
  have hinv := TM.pl_inv hr ok TM.row_nil TM.once_nil (fun x hx => (by cases hx)) (by simp; omega) n (by rw [hln]; exact Nat.le_refl _)
  obtain ⟨L, hL⟩ : ∃ L, TM.pl [] l n = L := ⟨_, rfl⟩
  rw [hL] at hinv
  have HI1' := hid (fun W h => by have := HI1.out W h; rw [hL] at this; exact this)
  obtain ⟨i1, i2, i3, i4, _⟩ := hinv
  simp only [List.length_nil, Nat.zero_add] at i1
  replace hchk := hchk L hL
  have HH := hid hl
  have hA0 := AAt.new w o a b nt
  have hb0 := al w (.cells #[.int .i64 o, .int .i64 a, .int .i64 b, .bool nt] 24)
  obtain ⟨wa, hwa⟩ : ∃ wa, w.alloc (.cells #[.int .i64 o, .int .i64 a, .int .i64 b, .bool nt] 24) = wa := ⟨_, rfl⟩
  rw [hwa] at hA0 hb0
  have hR0 := RB.Rec.new wa r hk.1
  have hb1 := al wa (.cells (RB.enc r) 27)
  obtain ⟨w0, hw0⟩ : ∃ w0, wa.alloc (.cells (RB.enc r) 27) = w0 := ⟨_, rfl⟩
  rw [hw0] at hR0 hb1
  have HA := hid (hA0.below hb1)
  have HB := hid (hb0.trans (hb1.mono hb0.size))
  have HRc := hid hR0
  have hXX := RB.lcf_eq
  have hsz16 := RB.enc_size hk.1
  clear hA0 hb0 hR0 hb1
  have HL0 := hid (HH.out.below HB.out)
  clear hAw hln ok hrb hr hl HI1 hL
  go_enter Try.func5, Try.ntmps5
  go_wp2_with fail
  try rw [hw0]
  clear hw0 hwa
  refine (HAw.out _).mono ?_
  rintro e1 w1 ⟨rfl, hb⟩
  replace HA := hid (HA.out.below hb)
  replace HRc := hid (HRc.out.below hb HRc.out.lt)
  replace HB := stp HB hb
  clear hb
  clear HAw
  go_wp2_with fail
  refine (HRt.out _ (HH.out.below HB.out)).mono ?_
  rintro e1 w2 ⟨rfl, hb⟩
  replace HA := hid (HA.out.below hb)
  replace HRc := hid (HRc.out.below hb HRc.out.lt)
  replace HB := stp HB hb
  clear hb HRt
  go_wp2_with fail
  refine (HI1'.out _ (HH.out.below HB.out)).mono ?_
  rintro e1 w3 ⟨s, m, c, rfl, hO, _, hg, _⟩
  have hb3 := gbelow hg (Nat.le_refl _) (fun k hk => by cases hk)
  replace HA := hid (HA.out.below hb3)
  replace HRc := hid (HRc.out.below hb3 HRc.out.lt)
  have hlm := hO.len
  have hmc := hO.cap
  have HLs := hid hO.lies
  have HO := hid hO
  have hs3 : w2.heap.size ≤ w3.heap.size := hb3.size
  have HSB := hid (show ∀ k, blk s = some k → w2.heap.size ≤ k ∧ k < w3.heap.size from fun k hk => by
    obtain ⟨A', hA', e⟩ := blk_at hk
    have := HO.out.at A' hA'
    omega)
  have HW2 := hid (show w.heap.size ≤ w2.heap.size from HB.out.size)
  replace HB := stp HB hb3
  have HCk := hid (fun W (h : LiesN W s L) => rcheckA s m c L hlm (by omega) i4 o a b nt W h)
  rw [hchk] at HCk
  clear hO hg hb3 HI1' HH HL0
  obtain ⟨a0, a1, a2, a3, af⟩ := HA.out.cells
  have hla := HA.out.load
  go_wp2_with fail
  refine (HCk.out _ HLs.out).mono ?_
  rintro e1 w4 ⟨rfl, hb⟩
  replace HA := hid (HA.out.below hb)
  replace HRc := hid (HRc.out.below hb HRc.out.lt)
  replace HLs := hid (HLs.out.below hb)
  replace HO := hid (HO.out.below hb)
  have hs4 : w2.heap.size ≤ w4.heap.size := Nat.le_trans hs3 hb.size
  have hs34 : w3.heap.size ≤ w4.heap.size := hb.size
  replace HB := stp HB hb
  clear hb HCk a0 a1 a2 a3 af hla
  go_wp2
  go_ret
  exact ⟨rfl, HB.out⟩
set_option maxHeartbeats 6400000 in
set_option maxRecDepth 1000000 in
theorem aval_good (hAw : Aw13) {Pl : PoolIs} (hPl : PoolOk Pl) (hKm : KmOk Pl) (hPa : PfOk Pl) (A : Option Addr) (n cap : Nat) (o : Int) (a b : Nat) (nt : Bool) (r : List Int) (hk : R.okR r) (l : List TM.N) (hln : l.length = n) (hn : n ≤ 60) (ok : ∀ x ∈ l, TM.okN x) (hrb : TM.rowB l = true) (ho : TM.isQ o = true) (hab : ∀ L : List TM.N, TM.pl [] l n = L → a < L.length ∧ b < L.length) (w : World) (hl : LiesN w A l) :
    Calls Try.prog 5 #[.slice A n cap, .agg #[.int .i64 o, .int .i64 (a : Int), .int .i64 (b : Int), .bool nt], .agg (RB.enc r)] w fun e w' => e = .returned (.bool true) ∧ Below w.heap.size w w' := by
  have hchk : ∀ L : List TM.N, TM.pl [] l n = L → TM.chkA L o a b = 0 := fun L hL => by
    obtain ⟨h1, h2⟩ := hab L hL
    have hrow : TM.Row L := by
      rw [← hL]
      exact (TM.pl_inv (TM.row_iff.1 hrb) ok TM.row_nil TM.once_nil (fun x hx => (by cases hx)) (by simp; omega) n (by rw [hln]; exact Nat.le_refl _)).2.1
    unfold TM.chkA
    rw [if_pos (TM.row_iff.2 hrow), if_pos ho, if_neg (by omega)]
  have hd : decide (60 < (n : Int)) = false := decide_eq_false (by omega)
  have hr := TM.row_iff.1 hrb
  have HAw := hid hAw
  have HRt := hid (fun W (h : LiesN W A l) => rrow_any A n cap l hln (by omega) ok W h true hrb)
  have HI1 := hid (fun W (h : LiesN W A l) => rinto_any W.heap.size 0 0 none [] A n cap l hln hr ok TM.row_nil TM.once_nil (fun x hx => (by cases hx)) (by simp; omega) W h (Nat.le_refl _) (fun h0 B hB => by
    obtain ⟨b, o, rfl, hh⟩ := h.ly (by omega)
    injection hB with hB; subst hB; exact hh.1) (OwnN.nil _ _))
  have hinv := TM.pl_inv hr ok TM.row_nil TM.once_nil (fun x hx => (by cases hx)) (by simp; omega) n (by rw [hln]; exact Nat.le_refl _)
  obtain ⟨L, hL⟩ : ∃ L, TM.pl [] l n = L := ⟨_, rfl⟩
  rw [hL] at hinv
  have HI1' := hid (fun W h => by have := HI1.out W h; rw [hL] at this; exact this)
  obtain ⟨i1, i2, i3, i4, _⟩ := hinv
  simp only [List.length_nil, Nat.zero_add] at i1
  replace hchk := hchk L hL
  replace hab := hab L hL
  have HH := hid hl
  have hA0 := AAt.new w o a b nt
  have hb0 := al w (.cells #[.int .i64 o, .int .i64 a, .int .i64 b, .bool nt] 24)
  obtain ⟨wa, hwa⟩ : ∃ wa, w.alloc (.cells #[.int .i64 o, .int .i64 a, .int .i64 b, .bool nt] 24) = wa := ⟨_, rfl⟩
  rw [hwa] at hA0 hb0
  have hR0 := RB.Rec.new wa r hk.1
  have hb1 := al wa (.cells (RB.enc r) 27)
  obtain ⟨w0, hw0⟩ : ∃ w0, wa.alloc (.cells (RB.enc r) 27) = w0 := ⟨_, rfl⟩
  rw [hw0] at hR0 hb1
  have HA := hid (hA0.below hb1)
  have HB := hid (hb0.trans (hb1.mono hb0.size))
  have HRc := hid hR0
  have hXX := RB.lcf_eq
  have hsz16 := RB.enc_size hk.1
  clear hA0 hb0 hR0 hb1
  have HL0 := hid (HH.out.below HB.out)
  clear hAw hln ok hrb hr hl HI1 hL
  go_enter Try.func5, Try.ntmps5
  go_wp2_with fail
  try rw [hw0]
  clear hw0 hwa
  refine (HAw.out _).mono ?_
  rintro e1 w1 ⟨rfl, hb⟩
  replace HA := hid (HA.out.below hb)
  replace HRc := hid (HRc.out.below hb HRc.out.lt)
  replace HB := stp HB hb
  clear hb
  clear HAw
  go_wp2_with fail
  refine (HRt.out _ (HH.out.below HB.out)).mono ?_
  rintro e1 w2 ⟨rfl, hb⟩
  replace HA := hid (HA.out.below hb)
  replace HRc := hid (HRc.out.below hb HRc.out.lt)
  replace HB := stp HB hb
  clear hb HRt
  go_wp2_with fail
  refine (HI1'.out _ (HH.out.below HB.out)).mono ?_
  rintro e1 w3 ⟨s, m, c, rfl, hO, _, hg, _⟩
  have hb3 := gbelow hg (Nat.le_refl _) (fun k hk => by cases hk)
  replace HA := hid (HA.out.below hb3)
  replace HRc := hid (HRc.out.below hb3 HRc.out.lt)
  have hlm := hO.len
  have hmc := hO.cap
  have HLs := hid hO.lies
  have HO := hid hO
  have hs3 : w2.heap.size ≤ w3.heap.size := hb3.size
  have HSB := hid (show ∀ k, blk s = some k → w2.heap.size ≤ k ∧ k < w3.heap.size from fun k hk => by
    obtain ⟨A', hA', e⟩ := blk_at hk
    have := HO.out.at A' hA'
    omega)
  have HW2 := hid (show w.heap.size ≤ w2.heap.size from HB.out.size)
  replace HB := stp HB hb3
  have HCk := hid (fun W (h : LiesN W s L) => rcheckA s m c L hlm (by omega) i4 o a b nt W h)
  rw [hchk] at HCk
  clear hO hg hb3 HI1' HH HL0
  obtain ⟨a0, a1, a2, a3, af⟩ := HA.out.cells
  have hla := HA.out.load
  go_wp2_with fail
  refine (HCk.out _ HLs.out).mono ?_
  rintro e1 w4 ⟨rfl, hb⟩
  replace HA := hid (HA.out.below hb)
  replace HRc := hid (HRc.out.below hb HRc.out.lt)
  replace HLs := hid (HLs.out.below hb)
  replace HO := hid (HO.out.below hb)
  have hs4 : w2.heap.size ≤ w4.heap.size := Nat.le_trans hs3 hb.size
  have hs34 : w3.heap.size ≤ w4.heap.size := hb.size
  replace HB := stp HB hb
  clear hb HCk a0 a1 a2 a3 af hla
  have HMd := hid (fun W (h : LiesN W s L) => lmade hPl hKm hPa s m c L hlm (by omega) i2 i3 i4 o ho a b (by omega) (by omega) nt W h)
  have HLL := hid (And.intro i2 (And.intro i3 (And.intro i4 (And.intro ho (And.intro hab hlm)))))
  clear hPl hKm hPa hchk
  obtain ⟨a0, a1, a2, a3, af⟩ := HA.out.cells
  go_wp2_with fail
  refine (HMd.out _ HLs.out).mono ?_
  rintro e1 w5 ⟨L2, o2, p, q, n2, s5, c5, rfl, hM, hML, hc5, hl5, hb, hs5⟩
  have hAl := al w5 (.cells #[.int .i64 o2, .int .i64 (p : Int), .int .i64 (q : Int), .bool n2] 24)
  have hT := AAt.new w5 o2 (p : Int) (q : Int) n2
  have hbb := hb.trans (hAl.mono hb.size)
  replace HA := hid (HA.out.below hbb)
  replace HRc := hid (HRc.out.below hbb HRc.out.lt)
  replace HLs := hid (HLs.out.below hbb)
  replace HB := stp HB hbb
  have hl5' := hl5.below hAl
  obtain ⟨w6, hw6⟩ : ∃ w6, w5.alloc (.cells #[.int .i64 o2, .int .i64 (p : Int), .int .i64 (q : Int), .bool n2] 24) = w6 := ⟨_, rfl⟩
  rw [hw6] at hT HA HRc HLs HB hl5'
  have HT := hid hT
  have HM := hid (And.intro hM hML)
  have HL5 := hid hl5'
  clear hM hML hl5 hb hs5 hAl hT hbb hl5' a0 a1 a2 a3 af HMd
  obtain ⟨a0, a1, a2, a3, af⟩ := HA.out.cells
  have hla := HA.out.load
  have hld := HRc.out.load
  obtain ⟨t, ht⟩ : ∃ t, TM.mkA o (TM.tr L a) (TM.tr L b) nt = t := ⟨_, rfl⟩
  have HHd := hid (fun W (h : LiesN W s L) => rholdsA s m c L hlm i2 i4 r hk o a b (by omega) (by omega) nt W h)
  have hwv : TM.okW r := fun i => hk.2 i
  have hval := TM.mkA_val hwv ho (TM.tr_okT i2 i4 a (by omega)) (TM.tr_okT i2 i4 b (by omega)) nt
  rw [← TM.val_tr i2 r a (by omega), ← TM.val_tr i2 r b (by omega)] at hval
  rw [ht] at HM hval
  have HV := hid hval
  have hOk := TM.mkA_fix ho (TM.tr_okT i2 i4 a (by omega)) (TM.tr_okT i2 i4 b (by omega)) nt
  rw [ht] at hOk
  have HOk := hid hOk
  rw [ht]
  clear ht hval hOk hwv
  go_wp2_with fail
  try rw [hw6]
  refine (HHd.out _ HLs.out).mono ?_
  rintro e1 w7 ⟨rfl, hb⟩
  clear hw6
  replace HA := hid (HA.out.below hb)
  replace HRc := hid (HRc.out.below hb HRc.out.lt)
  replace HT := hid (HT.out.below hb)
  replace HL5 := hid (HL5.out.below hb)
  replace HB := stp HB hb
  clear hb HHd a0 a1 a2 a3 af hld hla
  rw [← HV.out]
  by_cases e : t.1 = 1
  · have d1 : (((t.1 : Nat) : Int) != 1) = false := by rw [e]; rfl
    obtain ⟨rfl, rfl, hp, hq, hpt, hqt⟩ := HM.out.1.op e
    have hL2l := HM.out.2
    have HH2 := hid (fun W (h : LiesN W s5 L2) => rholdsA s5 L2.length c5 L2 rfl HM.out.1.row HM.out.1.ok r hk t.2.1 p q hp hq t.2.2.2.2 W h)
    have hE : (WM.ask t.2.1 (TM.val L2 r p) (TM.val L2 r q) != t.2.2.2.2) = TM.hldA r t := by
      rw [TM.val_tr HM.out.1.row r p hp, TM.val_tr HM.out.1.row r q hq, hpt, hqt]
      unfold TM.hldA
      rw [if_pos e]
    rw [hE] at HH2
    obtain ⟨x0, x1, x2, x3, xf⟩ := HT.out.cells
    have hla := HT.out.load
    have hld := HRc.out.load
    obtain ⟨hh, hhe⟩ : ∃ hh, TM.hldA r t = hh := ⟨_, rfl⟩
    rw [hhe] at HH2 ⊢
    clear hE hhe hpt hqt hp hq HV HM HOk
    go_wp2_with fail
    refine (HH2.out _ HL5.out).mono ?_
    rintro e1 w8 ⟨rfl, hb⟩
    replace HB := stp HB hb
    clear hb HH2
    go_wp2
    go_ret
    exact ⟨by cases hh <;> rfl, HB.out⟩
  · have d1 : (((t.1 : Nat) : Int) != 1) = true := bne_iff_ne.2 (by omega)
    rcases HOk.out.two e with h2 | h3
    · have hh : TM.hldA r t = true := by unfold TM.hldA; rw [if_neg e, h2]; rfl
      have d2 : (((t.1 : Nat) : Int) == 2) = true := by rw [h2]; rfl
      rw [hh]
      go_wp2
      go_ret
      exact ⟨rfl, HB.out⟩
    · have hh : TM.hldA r t = false := by unfold TM.hldA; rw [if_neg e, h3]; rfl
      have d2 : (((t.1 : Nat) : Int) == 2) = false := by rw [h3]; rfl
      rw [hh]
      go_wp2
      go_ret
      exact ⟨rfl, HB.out⟩
theorem aval_law (hAw : Aw13) {Pl : PoolIs} (hPl : PoolOk Pl) (hKm : KmOk Pl) (hPa : PfOk Pl) (A : Option Addr) (cap : Nat) (o a b : Int) (nt : Bool) (r : List Int) (hk : R.okR r) (l : List TM.N) (hcap : l.length ≤ cap) (wo : (Lit.int .i64 o).wf = true) (wx : (Lit.int .i64 a).wf = true) (wy : (Lit.int .i64 b).wf = true) (ok : ∀ x ∈ l, TM.okN x) (w : World) (hl : LiesN w A l) :
    Calls Try.prog 5 #[.slice A l.length cap, .agg #[.int .i64 o, .int .i64 a, .int .i64 b, .bool nt], .agg (RB.enc r)] w fun e w' => e = .returned (.bool true) ∧ Below w.heap.size w w' := by
  by_cases h : 60 < l.length
  · exact aval_big hAw A l.length cap o a b nt r hk h w
  · cases hr : TM.rowB l with
    | false => exact aval_bad hAw A l.length cap o a b nt r hk l rfl (by omega) ok hr w hl
    | true =>
      obtain ⟨L, hL⟩ : ∃ L, TM.pl [] l l.length = L := ⟨_, rfl⟩
      have hrow : TM.Row L := by
        rw [← hL]
        exact (TM.pl_inv (TM.row_iff.1 hr) ok TM.row_nil TM.once_nil (fun x hx => (by cases hx)) (by simp; omega) l.length (Nat.le_refl _)).2.1
      obtain ⟨q, hq⟩ : ∃ q, TM.chkA L o a b = q := ⟨_, rfl⟩
      by_cases hq0 : q = 0
      · subst hq0
        unfold TM.chkA at hq
        rw [if_pos (TM.row_iff.2 hrow)] at hq
        cases ho : TM.isQ o with
        | false => rw [ho, if_neg (by decide)] at hq; exact absurd hq (by decide)
        | true =>
          rw [ho, if_pos rfl] at hq
          have hin : ¬ (a < 0 ∨ (L.length : Int) ≤ a ∨ b < 0 ∨ (L.length : Int) ≤ b) := fun e => by rw [if_pos e] at hq; exact absurd hq (by decide)
          obtain ⟨a', rfl⟩ : ∃ a' : Nat, a = a' := ⟨a.toNat, by omega⟩
          obtain ⟨b', rfl⟩ : ∃ b' : Nat, b = b' := ⟨b.toNat, by omega⟩
          exact aval_good hAw hPl hKm hPa A l.length cap o a' b' nt r hk l rfl (by omega) ok hr ho (fun L' hL' => by rw [← hL', hL]; omega) w hl
      · exact aval_none hAw A l.length cap o a b nt r hk l rfl (by omega) ok hr q hq0 (fun L' hL' => by rw [← hL', hL]; exact hq) w hl
end Go.Proofs.Ytkeigicobcjleaa.TB
