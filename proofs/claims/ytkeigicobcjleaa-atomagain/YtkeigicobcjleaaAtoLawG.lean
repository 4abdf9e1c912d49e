/-
  The walk of the statement AtomAgain, over what the program's own functions answer.
-/
import Derived.Test.YtkeigicobcjleaaAtoMade
import Derived.Test.YtkeigicobcjleaaAtoRefE
import Derived.Test.YtkeigicobcjleaaAtoRec
import Derived.Test.YtkeigicobcjleaaAtoEq
namespace Go.Proofs.Ytkeigicobcjleaa.TB
open Go.ChangeShapes Go.WideShapes Go.ChangeAt Go.RowKit
open Go.Sort hiding Below
set_option linter.unusedVariables false
set_option maxRecDepth 100000

set_option maxHeartbeats 3200000 in
set_option maxRecDepth 1000000 in
theorem again_big (hAw : Aw13) (A : Option Addr) (n cap : Nat) (o a b : Int) (nt : Bool) (hn : 60 < n) (w : World) :
    Calls Try.prog 7 #[.slice A n cap, .agg #[.int .i64 o, .int .i64 a, .int .i64 b, .bool nt]] w fun e w' => e = .returned (.bool true) ∧ Below w.heap.size w w' := by
  have hd : decide (60 < (n : Int)) = true := decide_eq_true (by omega)
  have HAw := hid hAw
  have hA0 := AAt.new w o a b nt
  have hb0 := al w (.cells #[.int .i64 o, .int .i64 a, .int .i64 b, .bool nt] 24)
  obtain ⟨w0, hw0⟩ : ∃ w0, w.alloc (.cells #[.int .i64 o, .int .i64 a, .int .i64 b, .bool nt] 24) = w0 := ⟨_, rfl⟩
  rw [hw0] at hA0 hb0
  have HA := hid hA0
  have HB := hid hb0
  clear hA0 hb0
  clear hn hAw
  go_enter Try.func7, Try.ntmps7
  go_wp2_with fail
  try rw [hw0]
  clear hw0
  refine (HAw.out _).mono ?_
  rintro e1 w1 ⟨rfl, hb⟩
  replace HA := hid (HA.out.below hb)
  replace HB := stp HB hb
  clear hb
  go_wp2_with fail
  refine (HAw.out _).mono ?_
  rintro e w2 ⟨rfl, hb⟩
  replace HB := stp HB hb
  clear hb
  go_wp2
  go_ret
  exact ⟨rfl, HB.out⟩
set_option maxHeartbeats 3200000 in
set_option maxRecDepth 1000000 in
theorem again_bad (hAw : Aw13) (A : Option Addr) (n cap : Nat) (o a b : Int) (nt : Bool) (l : List TM.N) (hln : l.length = n) (hn : n ≤ 60) (ok : ∀ x ∈ l, TM.okN x) (hr : TM.rowB l = false) (w : World) (hl : LiesN w A l) :
    Calls Try.prog 7 #[.slice A n cap, .agg #[.int .i64 o, .int .i64 a, .int .i64 b, .bool nt]] w fun e w' => e = .returned (.bool true) ∧ Below w.heap.size w w' := by
  have hd : decide (60 < (n : Int)) = false := decide_eq_false (by omega)
  have HAw := hid hAw
  have HRt := hid (fun W (h : LiesN W A l) => rrow_any A n cap l hln (by omega) ok W h false hr)
  have HL := hid hl
  have hA0 := AAt.new w o a b nt
  have hb0 := al w (.cells #[.int .i64 o, .int .i64 a, .int .i64 b, .bool nt] 24)
  obtain ⟨w0, hw0⟩ : ∃ w0, w.alloc (.cells #[.int .i64 o, .int .i64 a, .int .i64 b, .bool nt] 24) = w0 := ⟨_, rfl⟩
  rw [hw0] at hA0 hb0
  have HA := hid hA0
  have HB := hid hb0
  clear hA0 hb0
  clear hn hAw hln ok hr hl
  go_enter Try.func7, Try.ntmps7
  go_wp2_with fail
  try rw [hw0]
  clear hw0
  refine (HAw.out _).mono ?_
  rintro e1 w1 ⟨rfl, hb⟩
  replace HA := hid (HA.out.below hb)
  replace HB := stp HB hb
  clear hb
  go_wp2_with fail
  refine (HRt.out _ (HL.out.below HB.out)).mono ?_
  rintro e w2 ⟨rfl, hb⟩
  replace HB := stp HB hb
  clear hb
  go_wp2_with fail
  refine (HAw.out _).mono ?_
  rintro e w3 ⟨rfl, hb⟩
  replace HB := stp HB hb
  clear hb
  go_wp2
  go_ret
  exact ⟨rfl, HB.out⟩
set_option maxHeartbeats 6400000 in
set_option maxRecDepth 1000000 in
theorem again_none (hAw : Aw13) (A : Option Addr) (n cap : Nat) (o a b : Int) (nt : Bool) (l : List TM.N) (hln : l.length = n) (hn : n ≤ 60) (ok : ∀ x ∈ l, TM.okN x) (hrb : TM.rowB l = true) (q : Int) (hq : q ≠ 0) (hchk : ∀ L : List TM.N, TM.pl [] l n = L → TM.chkA L o a b = q) (w : World) (hl : LiesN w A l) :
    Calls Try.prog 7 #[.slice A n cap, .agg #[.int .i64 o, .int .i64 a, .int .i64 b, .bool nt]] w fun e w' => e = .returned (.bool true) ∧ Below w.heap.size w w' := by
  have hqd : (q != 0) = true := bne_iff_ne.2 hq
  have hd : decide (60 < (n : Int)) = false := decide_eq_false (by omega)
  have hr := TM.row_iff.1 hrb
  have HAw := hid hAw
  have HRt := hid (fun W (h : LiesN W A l) => rrow_any A n cap l hln (by omega) ok W h true hrb)
  have HI1 := hid (fun W (h : LiesN W A l) => rinto_any W.heap.size 0 0 none [] A n cap l hln hr ok TM.row_nil TM.once_nil (fun x hx => (by cases hx)) (by simp; omega) W h (Nat.le_refl _) (fun h0 B hB => by
    obtain ⟨b, o, rfl, hh⟩ := h.ly (by omega)
    injection hB with hB; subst hB; exact hh.1) (OwnN.nil _ _))
  have hinv := TM.pl_inv hr ok TM.row_nil TM.once_nil (fun x hx => (by cases hx)) (by simp; omega) n (by rw [hln]; exact Nat.le_refl _)
  obtain ⟨L, hL⟩ : ∃ L, TM.pl [] l n = L := ⟨_, rfl⟩
  rw [hL] at hinv
  have HI1' := hid (fun W h => by have := HI1.out W h; rw [hL] at this; exact this)
  obtain ⟨i1, i2, i3, i4, _⟩ := hinv
  simp only [List.length_nil, Nat.zero_add] at i1
  replace hchk := hchk L hL
  have HH := hid hl
  have hA0 := AAt.new w o a b nt
  have hb0 := al w (.cells #[.int .i64 o, .int .i64 a, .int .i64 b, .bool nt] 24)
  obtain ⟨w0, hw0⟩ : ∃ w0, w.alloc (.cells #[.int .i64 o, .int .i64 a, .int .i64 b, .bool nt] 24) = w0 := ⟨_, rfl⟩
  rw [hw0] at hA0 hb0
  have HA := hid hA0
  have HB := hid hb0
  clear hA0 hb0
  have HL0 := hid (HH.out.below HB.out)
  clear hAw hln ok hrb hr hl HI1 hL
  go_enter Try.func7, Try.ntmps7
  go_wp2_with fail
  try rw [hw0]
  clear hw0
  refine (HAw.out _).mono ?_
  rintro e1 w1 ⟨rfl, hb⟩
  replace HA := hid (HA.out.below hb)
  replace HB := stp HB hb
  clear hb
  clear HAw
  go_wp2_with fail
  refine (HRt.out _ (HH.out.below HB.out)).mono ?_
  rintro e1 w2 ⟨rfl, hb⟩
  replace HA := hid (HA.out.below hb)
  replace HB := stp HB hb
  clear hb HRt
  go_wp2_with fail
  refine (HI1'.out _ (HH.out.below HB.out)).mono ?_
  rintro e1 w3 ⟨s, m, c, rfl, hO, _, hg, _⟩
  have hb3 := gbelow hg (Nat.le_refl _) (fun k hk => by cases hk)
  replace HA := hid (HA.out.below hb3)
  have hlm := hO.len
  have hmc := hO.cap
  have HLs := hid hO.lies
  have HO := hid hO
  have hs3 : w2.heap.size ≤ w3.heap.size := hb3.size
  have HSB := hid (show ∀ k, blk s = some k → w2.heap.size ≤ k ∧ k < w3.heap.size from fun k hk => by
    obtain ⟨A', hA', e⟩ := blk_at hk
    have := HO.out.at A' hA'
    omega)
  have HW2 := hid (show w.heap.size ≤ w2.heap.size from HB.out.size)
  replace HB := stp HB hb3
  have HCk := hid (fun W (h : LiesN W s L) => rcheckA s m c L hlm (by omega) i4 o a b nt W h)
  rw [hchk] at HCk
  clear hO hg hb3 HI1' HH HL0
  obtain ⟨a0, a1, a2, a3, af⟩ := HA.out.cells
  have hla := HA.out.load
  go_wp2_with fail
  refine (HCk.out _ HLs.out).mono ?_
  rintro e1 w4 ⟨rfl, hb⟩
  replace HA := hid (HA.out.below hb)
  replace HLs := hid (HLs.out.below hb)
  replace HO := hid (HO.out.below hb)
  have hs4 : w2.heap.size ≤ w4.heap.size := Nat.le_trans hs3 hb.size
  have hs34 : w3.heap.size ≤ w4.heap.size := hb.size
  replace HB := stp HB hb
  clear hb HCk a0 a1 a2 a3 af hla
  go_wp2
  go_ret
  exact ⟨rfl, HB.out⟩
set_option maxHeartbeats 6400000 in
set_option maxRecDepth 1000000 in
theorem again_good (hAw : Aw13) {Pl : PoolIs} (hPl : PoolOk Pl) (hKm : KmOk Pl) (hPa : PfOk Pl) (A : Option Addr) (n cap : Nat) (o : Int) (a b : Nat) (nt : Bool) (l : List TM.N) (hln : l.length = n) (hn : n ≤ 60) (ok : ∀ x ∈ l, TM.okN x) (hrb : TM.rowB l = true) (ho : TM.isQ o = true) (hab : ∀ L : List TM.N, TM.pl [] l n = L → a < L.length ∧ b < L.length) (w : World) (hl : LiesN w A l) :
    Calls Try.prog 7 #[.slice A n cap, .agg #[.int .i64 o, .int .i64 (a : Int), .int .i64 (b : Int), .bool nt]] w fun e w' => e = .returned (.bool true) ∧ Below w.heap.size w w' := by
  have hchk : ∀ L : List TM.N, TM.pl [] l n = L → TM.chkA L o a b = 0 := fun L hL => by
    obtain ⟨h1, h2⟩ := hab L hL
    have hrow : TM.Row L := by
      rw [← hL]
      exact (TM.pl_inv (TM.row_iff.1 hrb) ok TM.row_nil TM.once_nil (fun x hx => (by cases hx)) (by simp; omega) n (by rw [hln]; exact Nat.le_refl _)).2.1
    unfold TM.chkA
    rw [if_pos (TM.row_iff.2 hrow), if_pos ho, if_neg (by omega)]
  have hd : decide (60 < (n : Int)) = false := decide_eq_false (by omega)
  have hr := TM.row_iff.1 hrb
  have HAw := hid hAw
  have HRt := hid (fun W (h : LiesN W A l) => rrow_any A n cap l hln (by omega) ok W h true hrb)
  have HI1 := hid (fun W (h : LiesN W A l) => rinto_any W.heap.size 0 0 none [] A n cap l hln hr ok TM.row_nil TM.once_nil (fun x hx => (by cases hx)) (by simp; omega) W h (Nat.le_refl _) (fun h0 B hB => by
    obtain ⟨b, o, rfl, hh⟩ := h.ly (by omega)
    injection hB with hB; subst hB; exact hh.1) (OwnN.nil _ _))
  have hinv := TM.pl_inv hr ok TM.row_nil TM.once_nil (fun x hx => (by cases hx)) (by simp; omega) n (by rw [hln]; exact Nat.le_refl _)
  obtain ⟨L, hL⟩ : ∃ L, TM.pl [] l n = L := ⟨_, rfl⟩
  rw [hL] at hinv
  have HI1' := hid (fun W h => by have := HI1.out W h; rw [hL] at this; exact this)
  obtain ⟨i1, i2, i3, i4, _⟩ := hinv
  simp only [List.length_nil, Nat.zero_add] at i1
  replace hchk := hchk L hL
  replace hab := hab L hL
  have HH := hid hl
  have hA0 := AAt.new w o a b nt
  have hb0 := al w (.cells #[.int .i64 o, .int .i64 a, .int .i64 b, .bool nt] 24)
  obtain ⟨w0, hw0⟩ : ∃ w0, w.alloc (.cells #[.int .i64 o, .int .i64 a, .int .i64 b, .bool nt] 24) = w0 := ⟨_, rfl⟩
  rw [hw0] at hA0 hb0
  have HA := hid hA0
  have HB := hid hb0
  clear hA0 hb0
  have HL0 := hid (HH.out.below HB.out)
  clear hAw hln ok hrb hr hl HI1 hL
  go_enter Try.func7, Try.ntmps7
  go_wp2_with fail
  try rw [hw0]
  clear hw0
  refine (HAw.out _).mono ?_
  rintro e1 w1 ⟨rfl, hb⟩
  replace HA := hid (HA.out.below hb)
  replace HB := stp HB hb
  clear hb
  clear HAw
  go_wp2_with fail
  refine (HRt.out _ (HH.out.below HB.out)).mono ?_
  rintro e1 w2 ⟨rfl, hb⟩
  replace HA := hid (HA.out.below hb)
  replace HB := stp HB hb
  clear hb HRt
  go_wp2_with fail
  refine (HI1'.out _ (HH.out.below HB.out)).mono ?_
  rintro e1 w3 ⟨s, m, c, rfl, hO, _, hg, _⟩
  have hb3 := gbelow hg (Nat.le_refl _) (fun k hk => by cases hk)
  replace HA := hid (HA.out.below hb3)
  have hlm := hO.len
  have hmc := hO.cap
  have HLs := hid hO.lies
  have HO := hid hO
  have hs3 : w2.heap.size ≤ w3.heap.size := hb3.size
  have HSB := hid (show ∀ k, blk s = some k → w2.heap.size ≤ k ∧ k < w3.heap.size from fun k hk => by
    obtain ⟨A', hA', e⟩ := blk_at hk
    have := HO.out.at A' hA'
    omega)
  have HW2 := hid (show w.heap.size ≤ w2.heap.size from HB.out.size)
  replace HB := stp HB hb3
  have HCk := hid (fun W (h : LiesN W s L) => rcheckA s m c L hlm (by omega) i4 o a b nt W h)
  rw [hchk] at HCk
  clear hO hg hb3 HI1' HH HL0
  obtain ⟨a0, a1, a2, a3, af⟩ := HA.out.cells
  have hla := HA.out.load
  go_wp2_with fail
  refine (HCk.out _ HLs.out).mono ?_
  rintro e1 w4 ⟨rfl, hb⟩
  replace HA := hid (HA.out.below hb)
  replace HLs := hid (HLs.out.below hb)
  replace HO := hid (HO.out.below hb)
  have hs4 : w2.heap.size ≤ w4.heap.size := Nat.le_trans hs3 hb.size
  have hs34 : w3.heap.size ≤ w4.heap.size := hb.size
  replace HB := stp HB hb
  clear hb HCk a0 a1 a2 a3 af hla
  have HMd := hid (fun W (h : LiesN W s L) => lmade hPl hKm hPa s m c L hlm (by omega) i2 i3 i4 o ho a b (by omega) (by omega) nt W h)
  have HLL := hid (And.intro i2 (And.intro i3 (And.intro i4 (And.intro ho (And.intro hab hlm)))))
  clear hchk
  obtain ⟨a0, a1, a2, a3, af⟩ := HA.out.cells
  have HMs := hid (fun (L2 : List TM.N) (h1 : TM.Row L2) (h2 : TM.Once L2) (h3 : ∀ x ∈ L2, TM.okN x) (s5 : Option Addr) (k2 c5 : Nat) (hk : L2.length = k2) (hk2 : k2 ≤ 1000) (op : Int) (ho : TM.isQ op = true) (x y : Nat) (hx : x < k2) (hy : y < k2) (n2 : Bool) W (h : LiesN W s5 L2) => lmade hPl hKm hPa s5 k2 c5 L2 hk hk2 h1 h2 h3 op ho x y hx hy n2 W h)
  clear hPl hKm hPa
  obtain ⟨t, ht⟩ : ∃ t, TM.mkA o (TM.tr L a) (TM.tr L b) nt = t := ⟨_, rfl⟩
  have hOk := TM.mkA_fix ho (TM.tr_okT i2 i4 a (by omega)) (TM.tr_okT i2 i4 b (by omega)) nt
  rw [ht] at HMd hOk
  have HOk := hid hOk
  have Ht := hid ht
  clear ht hOk
  go_wp2_with fail
  refine (HMd.out _ HLs.out).mono ?_
  rintro e1 w5 ⟨L2, o2, p, q, n2, s5, c5, rfl, hM, hML, hc5, hl5, hb, hs5⟩
  have hAl := al w5 (.cells #[.int .i64 o2, .int .i64 (p : Int), .int .i64 (q : Int), .bool n2] 24)
  have hT := AAt.new w5 o2 (p : Int) (q : Int) n2
  have hbb := hb.trans (hAl.mono hb.size)
  replace HA := hid (HA.out.below hbb)
  replace HLs := hid (HLs.out.below hbb)
  replace HB := stp HB hbb
  have hl5' := hl5.below hAl
  have hs5b : w4.heap.size ≤ w5.heap.size := hb.size
  obtain ⟨w6, hw6⟩ : ∃ w6, w5.alloc (.cells #[.int .i64 o2, .int .i64 (p : Int), .int .i64 (q : Int), .bool n2] 24) = w6 := ⟨_, rfl⟩
  rw [hw6] at hT HA HLs HB hl5' hAl
  have hs56 : w5.heap.size ≤ w6.heap.size := hAl.size
  have HT := hid hT
  have HM := hid (And.intro hM hML)
  have HL5 := hid (And.intro hl5' hs5)
  obtain ⟨tb, htb⟩ : ∃ tb, w5.heap.size = tb := ⟨_, rfl⟩
  rw [htb] at HT hs5b hs56
  clear hM hML hl5 hb hs5 hAl hT hbb hl5' a0 a1 a2 a3 af HMd HO
  obtain ⟨a0, a1, a2, a3, af⟩ := HA.out.cells
  by_cases e : t.1 = 1
  · have d1 : (((t.1 : Nat) : Int) != 1) = false := by rw [e]; rfl
    have d2 : (((t.1 : Nat) : Int) == 1) = true := by rw [e]; rfl
    obtain ⟨rfl, rfl, hp, hq, hpt, hqt⟩ := HM.out.1.op e
    have hfx : TM.FixA t := by
      rcases HOk.out with ⟨x, y, h⟩ | h
      · rw [h] at e; exact absurd e (TM.kn_1 x y)
      · exact h
    have hmk : TM.mkA t.2.1 t.2.2.1 t.2.2.2.1 t.2.2.2.2 = t ∧ TM.nmT t.2.2.1 = none ∧ TM.isQ t.2.1 = true := by
      obtain ⟨op, s1, u1, n1, e1, e2, e3, _, _, e4⟩ := hfx
      rw [e1]
      exact ⟨e4 n1, e3, e2⟩
    have hnum : ¬ ((TM.nat0 L a).1 = 1 ∧ (TM.nat0 L b).1 = 1) := fun ⟨h1, h2⟩ => by
      have na := TM.nm_row HLL.out.1 HLL.out.2.2.2.2.1.1
      have nb := TM.nm_row HLL.out.1 HLL.out.2.2.2.2.1.2
      rw [if_pos h1] at na
      rw [if_pos h2] at nb
      have := TM.mkA_nums (op := o) na nb nt
      rw [Ht.out] at this
      rw [this] at e
      exact TM.kn_1 _ _ e
    have hself : a = b → o = 64 := fun h => by
      by_cases h4 : o = 64
      · exact h4
      · obtain ⟨x, hx⟩ := TM.mkA_self h4 (TM.tr L a) nt
        have h5 := Ht.out
        rw [← h, hx] at h5
        rw [← h5] at e
        exact absurd e (TM.kn_1 _ _)
    have hlm2 := HLL.out.2.2.2.2.2
    have hL2n : L2.length ≤ 200 := by have := HM.out.2; omega
    obtain ⟨k2, hk2⟩ : ∃ k2, L2.length = k2 := ⟨_, rfl⟩
    have hMM := HMs.out L2 HM.out.1.row HM.out.1.once HM.out.1.ok s5 k2 c5 hk2 (by omega) t.2.1 hmk.2.2 p q (by omega) (by omega) t.2.2.2.2
    rw [hpt, hqt, hmk.1] at hMM
    have HMM := hid hMM
    have hpn : (TM.nat0 L2 p).1 ≠ 1 := fun h => by
      have := TM.nm_row HM.out.1.row hp
      rw [if_pos h, hpt, hmk.2.1] at this
      cases this
    rw [TM.nat0_eq hp] at hpn
    obtain ⟨g5, f5, rfl, hly5⟩ := HL5.out.1.ly (by omega)
    have HP5 := hid (And.intro hly5 hpn)
    obtain ⟨gs, fs, rfl, hlys⟩ := HLs.out.ly (by omega)
    have ham : a < L.length := HLL.out.2.2.2.2.1.1
    have hbm : b < L.length := HLL.out.2.2.2.2.1.2
    obtain ⟨qa, _, _, _⟩ := hlys.2 a ham
    obtain ⟨qb, _, _, _⟩ := hlys.2 b hbm
    rw [TM.nat0_eq ham, TM.nat0_eq hbm] at hnum
    obtain ⟨xa, hxa⟩ : ∃ x, L[a].1 = x := ⟨_, rfl⟩
    obtain ⟨xb, hxb⟩ : ∃ x, L[b].1 = x := ⟨_, rfl⟩
    rw [hxa] at qa hnum
    rw [hxb] at qb hnum
    have ia : (a : Int) < (m : Int) := by omega
    have ib : (b : Int) < (m : Int) := by omega
    have hc1 : (xa == 1) = false ∨ ((xa == 1) = true ∧ (xb == 1) = false) := by
      by_cases h : xa = 1
      · exact .inr ⟨beq_iff_eq.2 h, beq_eq_false_iff_ne.2 (fun h2 => hnum ⟨h, h2⟩)⟩
      · exact .inl (beq_eq_false_iff_ne.2 h)
    have hc2 : ((a : Int) == (b : Int)) = false ∨ (((a : Int) == (b : Int)) = true ∧ (o != 64) = false) := by
      by_cases h : a = b
      · exact .inr ⟨beq_iff_eq.2 (by omega), by rw [hself h]; rfl⟩
      · exact .inl (beq_eq_false_iff_ne.2 (by omega))
    rw [hk2] at hL2n hp hq
    rw [hk2]
    have HK := hid (And.intro hk2 (And.intro hpt hqt))
    clear hmk hnum hself hlys hly5 hpn hfx hMM hxa hxb hpt hqt hk2
    rcases hc1 with f1 | ⟨f1, f2⟩ <;> rcases hc2 with f3 | ⟨f3, f4⟩
    all_goals
      go_upto_region 11 with fail
      try rw [hw6]
      obtain ⟨t0, t1, t2, t3, tf⟩ := HT.out.cells
      clear a0 a1 a2 a3 af qa qb
      go_wp2_with fail
      refine (HMM.out _ HL5.out.1).mono ?_
      rintro e1 w7 ⟨L6, o4, p4, q4, n4, s6, c6, rfl, hM4, hML4, hc6, hl6, hb, _⟩
      obtain ⟨rfl, rfl, hp4, hq4, hpt4, hqt4⟩ := hM4.op e
      have hpL2 : p < L2.length := by rw [HK.out.1]; exact hp
      have hqL2 : q < L2.length := by rw [HK.out.1]; exact hq
      obtain rfl : p4 = p := TM.tr_inj hM4.row hM4.ok hM4.once p4 p hp4 (Nat.lt_of_lt_of_le hpL2 hM4.len) (by rw [hpt4, (hM4.keep hpL2).2, HK.out.2.1])
      obtain rfl : q4 = q := TM.tr_inj hM4.row hM4.ok hM4.once q4 q hq4 (Nat.lt_of_lt_of_le hqL2 hM4.len) (by rw [hqt4, (hM4.keep hqL2).2, HK.out.2.2])
      have hal := al w7 (.cells #[.int .i64 t.2.1, .int .i64 (p4 : Int), .int .i64 (q4 : Int), .bool t.2.2.2.2] 24)
      have hU := hid (AAt.new w7 t.2.1 (p4 : Int) (q4 : Int) t.2.2.2.2)
      have hbb := hb.trans (hal.mono hb.size)
      have hT8 := HT.out.below hbb
      have hlt8 := hT8.lt
      have hly8 := HP5.out.1.below hbb
      obtain ⟨z0, _, _, _⟩ := hly8.2 p4 hpL2
      have hBf := stp HB hbb
      obtain ⟨v0, v1, v2, v3, vf⟩ := hT8.cells
      obtain ⟨x0, x1, x2, x3, xf⟩ := hU.out.cells
      have hzn : (L2[p4].1 != 1) = true := bne_iff_ne.2 HP5.out.2
      have hqe : ∀ W, (binOp .eql 24 (.agg #[.int .i64 t.2.1, .int .i64 (p4 : Int), .int .i64 (q4 : Int), .bool t.2.2.2.2]) (.agg #[.int .i64 t.2.1, .int .i64 (p4 : Int), .int .i64 (q4 : Int), .bool t.2.2.2.2])).run Try.prog W = .ok (.bool true) W := fun W => by rw [eqlA, decide_eq_true rfl]
      have hg := guardA
      have ip : (p4 : Int) < (k2 : Int) := by omega
      clear hM4 hML4 hc6 hl6 hb hal hbb hT8 hly8 t0 t1 t2 t3 tf
      go_wp2
      go_ret
      exact ⟨rfl, hBf.out⟩
  · have d1 : (((t.1 : Nat) : Int) != 1) = true := bne_iff_ne.2 (by omega)
    have d2 : (((t.1 : Nat) : Int) == 1) = false := beq_eq_false_iff_ne.2 (by omega)
    go_wp2
    go_ret
    exact ⟨rfl, HB.out⟩
theorem again_law (hAw : Aw13) {Pl : PoolIs} (hPl : PoolOk Pl) (hKm : KmOk Pl) (hPa : PfOk Pl) (A : Option Addr) (cap : Nat) (o a b : Int) (nt : Bool) (l : List TM.N) (hcap : l.length ≤ cap) (wo : (Lit.int .i64 o).wf = true) (wx : (Lit.int .i64 a).wf = true) (wy : (Lit.int .i64 b).wf = true) (ok : ∀ x ∈ l, TM.okN x) (w : World) (hl : LiesN w A l) :
    Calls Try.prog 7 #[.slice A l.length cap, .agg #[.int .i64 o, .int .i64 a, .int .i64 b, .bool nt]] w fun e w' => e = .returned (.bool true) ∧ Below w.heap.size w w' := by
  by_cases h : 60 < l.length
  · exact again_big hAw A l.length cap o a b nt h w
  · cases hr : TM.rowB l with
    | false => exact again_bad hAw A l.length cap o a b nt l rfl (by omega) ok hr w hl
    | true =>
      obtain ⟨L, hL⟩ : ∃ L, TM.pl [] l l.length = L := ⟨_, rfl⟩
      have hrow : TM.Row L := by
        rw [← hL]
        exact (TM.pl_inv (TM.row_iff.1 hr) ok TM.row_nil TM.once_nil (fun x hx => (by cases hx)) (by simp; omega) l.length (Nat.le_refl _)).2.1
      obtain ⟨q, hq⟩ : ∃ q, TM.chkA L o a b = q := ⟨_, rfl⟩
      by_cases hq0 : q = 0
      · subst hq0
        unfold TM.chkA at hq
        rw [if_pos (TM.row_iff.2 hrow)] at hq
        cases ho : TM.isQ o with
        | false => rw [ho, if_neg (by decide)] at hq; exact absurd hq (by decide)
        | true =>
          rw [ho, if_pos rfl] at hq
          have hin : ¬ (a < 0 ∨ (L.length : Int) ≤ a ∨ b < 0 ∨ (L.length : Int) ≤ b) := fun e => by rw [if_pos e] at hq; exact absurd hq (by decide)
          obtain ⟨a', rfl⟩ : ∃ a' : Nat, a = a' := ⟨a.toNat, by omega⟩
          obtain ⟨b', rfl⟩ : ∃ b' : Nat, b = b' := ⟨b.toNat, by omega⟩
          exact again_good hAw hPl hKm hPa A l.length cap o a' b' nt l rfl (by omega) ok hr ho (fun L' hL' => by rw [← hL', hL]; omega) w hl
      · exact again_none hAw A l.length cap o a b nt l rfl (by omega) ok hr q hq0 (fun L' hL' => by rw [← hL', hL]; exact hq) w hl
end Go.Proofs.Ytkeigicobcjleaa.TB
