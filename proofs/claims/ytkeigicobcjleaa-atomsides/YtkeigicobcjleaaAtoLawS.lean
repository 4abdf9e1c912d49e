/-
  The walk of the statement AtomSides, over what the program's own functions answer.
-/
import Derived.Test.YtkeigicobcjleaaAtoMade
import Derived.Test.YtkeigicobcjleaaAtoRefE
import Derived.Test.YtkeigicobcjleaaAtoRec
import Derived.Test.YtkeigicobcjleaaAtoHld
namespace Go.Proofs.Ytkeigicobcjleaa.TB
open Go.ChangeShapes Go.WideShapes Go.ChangeAt Go.RowKit
open Go.Sort hiding Below
set_option linter.unusedVariables false
set_option maxRecDepth 100000

set_option maxHeartbeats 3200000 in
set_option maxRecDepth 1000000 in
theorem asides_big (hAw : Aw13) (A : Option Addr) (n cap : Nat) (x0 x1 : Int) (r : List Int) (hk : R.okR r) (hn : 60 < n) (w : World) :
    Calls Try.prog 8 #[.slice A n cap, .agg #[.int .i64 x0, .int .i64 x1], .agg (RB.enc r)] w fun e w' => e = .returned (.bool true) ∧ Below w.heap.size w w' := by
  have hd : decide (60 < (n : Int)) = true := decide_eq_true (by omega)
  have HAw := hid hAw
  have hA0 := At2.new w x0 x1 47
  have hb0 := al w (.cells #[.int .i64 x0, .int .i64 x1] 47)
  obtain ⟨wa, hwa⟩ : ∃ wa, w.alloc (.cells #[.int .i64 x0, .int .i64 x1] 47) = wa := ⟨_, rfl⟩
  rw [hwa] at hA0 hb0
  have hR0 := RB.Rec.new wa r hk.1
  have hb1 := al wa (.cells (RB.enc r) 27)
  obtain ⟨w0, hw0⟩ : ∃ w0, wa.alloc (.cells (RB.enc r) 27) = w0 := ⟨_, rfl⟩
  rw [hw0] at hR0 hb1
  have HA := hid (hA0.below hb1)
  have HB := hid (hb0.trans (hb1.mono hb0.size))
  have HRc := hid hR0
  have hXX := RB.lcf_eq
  have hsz16 := RB.enc_size hk.1
  clear hA0 hb0 hR0 hb1
  clear hn hAw
  go_enter Try.func8, Try.ntmps8
  go_wp2_with fail
  try rw [hw0]
  clear hw0 hwa
  refine (HAw.out _).mono ?_
  rintro e1 w1 ⟨rfl, hb⟩
  replace HA := hid (HA.out.below hb)
  replace HRc := hid (HRc.out.below hb HRc.out.lt)
  replace HB := stp HB hb
  clear hb
  go_wp2_with fail
  refine (HAw.out _).mono ?_
  rintro e w2 ⟨rfl, hb⟩
  replace HB := stp HB hb
  clear hb
  go_wp2
  go_ret
  exact ⟨rfl, HB.out⟩
set_option maxHeartbeats 3200000 in
set_option maxRecDepth 1000000 in
theorem asides_bad (hAw : Aw13) (A : Option Addr) (n cap : Nat) (x0 x1 : Int) (r : List Int) (hk : R.okR r) (l : List TM.N) (hln : l.length = n) (hn : n ≤ 60) (ok : ∀ x ∈ l, TM.okN x) (hr : TM.rowB l = false) (w : World) (hl : LiesN w A l) :
    Calls Try.prog 8 #[.slice A n cap, .agg #[.int .i64 x0, .int .i64 x1], .agg (RB.enc r)] w fun e w' => e = .returned (.bool true) ∧ Below w.heap.size w w' := by
  have hd : decide (60 < (n : Int)) = false := decide_eq_false (by omega)
  have HAw := hid hAw
  have HRt := hid (fun W (h : LiesN W A l) => rrow_any A n cap l hln (by omega) ok W h false hr)
  have HL := hid hl
  have hA0 := At2.new w x0 x1 47
  have hb0 := al w (.cells #[.int .i64 x0, .int .i64 x1] 47)
  obtain ⟨wa, hwa⟩ : ∃ wa, w.alloc (.cells #[.int .i64 x0, .int .i64 x1] 47) = wa := ⟨_, rfl⟩
  rw [hwa] at hA0 hb0
  have hR0 := RB.Rec.new wa r hk.1
  have hb1 := al wa (.cells (RB.enc r) 27)
  obtain ⟨w0, hw0⟩ : ∃ w0, wa.alloc (.cells (RB.enc r) 27) = w0 := ⟨_, rfl⟩
  rw [hw0] at hR0 hb1
  have HA := hid (hA0.below hb1)
  have HB := hid (hb0.trans (hb1.mono hb0.size))
  have HRc := hid hR0
  have hXX := RB.lcf_eq
  have hsz16 := RB.enc_size hk.1
  clear hA0 hb0 hR0 hb1
  clear hn hAw hln ok hr hl
  go_enter Try.func8, Try.ntmps8
  go_wp2_with fail
  try rw [hw0]
  clear hw0 hwa
  refine (HAw.out _).mono ?_
  rintro e1 w1 ⟨rfl, hb⟩
  replace HA := hid (HA.out.below hb)
  replace HRc := hid (HRc.out.below hb HRc.out.lt)
  replace HB := stp HB hb
  clear hb
  go_wp2_with fail
  refine (HRt.out _ (HL.out.below HB.out)).mono ?_
  rintro e w2 ⟨rfl, hb⟩
  replace HB := stp HB hb
  clear hb
  go_wp2_with fail
  refine (HAw.out _).mono ?_
  rintro e w3 ⟨rfl, hb⟩
  replace HB := stp HB hb
  clear hb
  go_wp2
  go_ret
  exact ⟨rfl, HB.out⟩
set_option maxHeartbeats 6400000 in
set_option maxRecDepth 1000000 in
theorem asides_none (hAw : Aw13) (A : Option Addr) (n cap : Nat) (x0 x1 : Int) (r : List Int) (hk : R.okR r) (l : List TM.N) (hln : l.length = n) (hn : n ≤ 60) (ok : ∀ x ∈ l, TM.okN x) (hrb : TM.rowB l = true) (q : Int) (hq : q ≠ 0) (hchk : ∀ L : List TM.N, TM.pl [] l n = L → TM.chkA L 16 x0 x1 = q) (w : World) (hl : LiesN w A l) :
    Calls Try.prog 8 #[.slice A n cap, .agg #[.int .i64 x0, .int .i64 x1], .agg (RB.enc r)] w fun e w' => e = .returned (.bool true) ∧ Below w.heap.size w w' := by
  have hqd : (q != 0) = true := bne_iff_ne.2 hq
  have hd : decide (60 < (n : Int)) = false := decide_eq_false (by omega)
  have hr := TM.row_iff.1 hrb
  have HAw := hid hAw
  have HRt := hid (fun W (h : LiesN W A l) => rrow_any A n cap l hln (by omega) ok W h true hrb)
  have HI1 := hid (fun W (h : LiesN W A l) => rinto_any W.heap.size 0 0 none [] A n cap l hln hr ok TM.row_nil TM.once_nil (fun x hx => (by cases hx)) (by simp; omega) W h (Nat.le_refl _) (fun h0 B hB => by
    obtain ⟨b, o, rfl, hh⟩ := h.ly (by omega)
    injection hB with hB; subst hB; exact hh.1) (OwnN.nil _ _))
  have hinv := TM.pl_inv hr ok TM.row_nil TM.once_nil (fun x hx => (by cases hx)) (by simp; omega) n (by rw [hln]; exact Nat.le_refl _)
  obtain ⟨L, hL⟩ : ∃ L, TM.pl [] l n = L := ⟨_, rfl⟩
  rw [hL] at hinv
  have HI1' := hid (fun W h => by have := HI1.out W h; rw [hL] at this; exact this)
  obtain ⟨i1, i2, i3, i4, _⟩ := hinv
  simp only [List.length_nil, Nat.zero_add] at i1
  replace hchk := hchk L hL
  have HH := hid hl
  have hA0 := At2.new w x0 x1 47
  have hb0 := al w (.cells #[.int .i64 x0, .int .i64 x1] 47)
  obtain ⟨wa, hwa⟩ : ∃ wa, w.alloc (.cells #[.int .i64 x0, .int .i64 x1] 47) = wa := ⟨_, rfl⟩
  rw [hwa] at hA0 hb0
  have hR0 := RB.Rec.new wa r hk.1
  have hb1 := al wa (.cells (RB.enc r) 27)
  obtain ⟨w0, hw0⟩ : ∃ w0, wa.alloc (.cells (RB.enc r) 27) = w0 := ⟨_, rfl⟩
  rw [hw0] at hR0 hb1
  have HA := hid (hA0.below hb1)
  have HB := hid (hb0.trans (hb1.mono hb0.size))
  have HRc := hid hR0
  have hXX := RB.lcf_eq
  have hsz16 := RB.enc_size hk.1
  clear hA0 hb0 hR0 hb1
  have HL0 := hid (HH.out.below HB.out)
  clear hAw hln ok hrb hr hl HI1 hL
  go_enter Try.func8, Try.ntmps8
  go_wp2_with fail
  try rw [hw0]
  clear hw0 hwa
  refine (HAw.out _).mono ?_
  rintro e1 w1 ⟨rfl, hb⟩
  replace HA := hid (HA.out.below hb)
  replace HRc := hid (HRc.out.below hb HRc.out.lt)
  replace HB := stp HB hb
  clear hb
  clear HAw
  go_wp2_with fail
  refine (HRt.out _ (HH.out.below HB.out)).mono ?_
  rintro e1 w2 ⟨rfl, hb⟩
  replace HA := hid (HA.out.below hb)
  replace HRc := hid (HRc.out.below hb HRc.out.lt)
  replace HB := stp HB hb
  clear hb HRt
  go_wp2_with fail
  refine (HI1'.out _ (HH.out.below HB.out)).mono ?_
  rintro e1 w3 ⟨s, m, c, rfl, hO, _, hg, _⟩
  have hb3 := gbelow hg (Nat.le_refl _) (fun k hk => by cases hk)
  replace HA := hid (HA.out.below hb3)
  replace HRc := hid (HRc.out.below hb3 HRc.out.lt)
  have hlm := hO.len
  have hmc := hO.cap
  have HLs := hid hO.lies
  have HO := hid hO
  have hs3 : w2.heap.size ≤ w3.heap.size := hb3.size
  have HSB := hid (show ∀ k, blk s = some k → w2.heap.size ≤ k ∧ k < w3.heap.size from fun k hk => by
    obtain ⟨A', hA', e⟩ := blk_at hk
    have := HO.out.at A' hA'
    omega)
  have HW2 := hid (show w.heap.size ≤ w2.heap.size from HB.out.size)
  replace HB := stp HB hb3
  have HCk := hid (fun W (h : LiesN W s L) => rcheckA s m c L hlm (by omega) i4 16 x0 x1 false W h)
  rw [hchk] at HCk
  clear hO hg hb3 HI1' HH HL0
  obtain ⟨_, a0, a1⟩ := HA.out
  have hla := HA.out.load
  go_wp2_with fail
  refine (HCk.out _ HLs.out).mono ?_
  rintro e1 w4 ⟨rfl, hb⟩
  replace HA := hid (HA.out.below hb)
  replace HRc := hid (HRc.out.below hb HRc.out.lt)
  replace HLs := hid (HLs.out.below hb)
  replace HO := hid (HO.out.below hb)
  have hs4 : w2.heap.size ≤ w4.heap.size := Nat.le_trans hs3 hb.size
  have hs34 : w3.heap.size ≤ w4.heap.size := hb.size
  replace HB := stp HB hb
  clear hb HCk a0 a1 hla
  go_wp2
  go_ret
  exact ⟨rfl, HB.out⟩
set_option maxHeartbeats 6400000 in
set_option maxRecDepth 1000000 in
theorem asides_good (hAw : Aw13) {Pl : PoolIs} (hPl : PoolOk Pl) (hKm : KmOk Pl) (hPa : PfOk Pl) (A : Option Addr) (n cap : Nat) (a b : Nat) (r : List Int) (hk : R.okR r) (l : List TM.N) (hln : l.length = n) (hn : n ≤ 60) (ok : ∀ x ∈ l, TM.okN x) (hrb : TM.rowB l = true) (hab : ∀ L : List TM.N, TM.pl [] l n = L → a < L.length ∧ b < L.length) (w : World) (hl : LiesN w A l) :
    Calls Try.prog 8 #[.slice A n cap, .agg #[.int .i64 (a : Int), .int .i64 (b : Int)], .agg (RB.enc r)] w fun e w' => e = .returned (.bool true) ∧ Below w.heap.size w w' := by
  have hchk : ∀ L : List TM.N, TM.pl [] l n = L → TM.chkA L 16 a b = 0 := fun L hL => by
    obtain ⟨h1, h2⟩ := hab L hL
    have hrow : TM.Row L := by
      rw [← hL]
      exact (TM.pl_inv (TM.row_iff.1 hrb) ok TM.row_nil TM.once_nil (fun x hx => (by cases hx)) (by simp; omega) n (by rw [hln]; exact Nat.le_refl _)).2.1
    unfold TM.chkA
    rw [if_pos (TM.row_iff.2 hrow), if_pos (by decide), if_neg (by omega)]
  have hd : decide (60 < (n : Int)) = false := decide_eq_false (by omega)
  have hr := TM.row_iff.1 hrb
  have HAw := hid hAw
  have HRt := hid (fun W (h : LiesN W A l) => rrow_any A n cap l hln (by omega) ok W h true hrb)
  have HI1 := hid (fun W (h : LiesN W A l) => rinto_any W.heap.size 0 0 none [] A n cap l hln hr ok TM.row_nil TM.once_nil (fun x hx => (by cases hx)) (by simp; omega) W h (Nat.le_refl _) (fun h0 B hB => by
    obtain ⟨b, o, rfl, hh⟩ := h.ly (by omega)
    injection hB with hB; subst hB; exact hh.1) (OwnN.nil _ _))
  have hinv := TM.pl_inv hr ok TM.row_nil TM.once_nil (fun x hx => (by cases hx)) (by simp; omega) n (by rw [hln]; exact Nat.le_refl _)
  obtain ⟨L, hL⟩ : ∃ L, TM.pl [] l n = L := ⟨_, rfl⟩
  rw [hL] at hinv
  have HI1' := hid (fun W h => by have := HI1.out W h; rw [hL] at this; exact this)
  obtain ⟨i1, i2, i3, i4, _⟩ := hinv
  simp only [List.length_nil, Nat.zero_add] at i1
  replace hchk := hchk L hL
  replace hab := hab L hL
  have HH := hid hl
  have hA0 := At2.new w a b 47
  have hb0 := al w (.cells #[.int .i64 a, .int .i64 b] 47)
  obtain ⟨wa, hwa⟩ : ∃ wa, w.alloc (.cells #[.int .i64 a, .int .i64 b] 47) = wa := ⟨_, rfl⟩
  rw [hwa] at hA0 hb0
  have hR0 := RB.Rec.new wa r hk.1
  have hb1 := al wa (.cells (RB.enc r) 27)
  obtain ⟨w0, hw0⟩ : ∃ w0, wa.alloc (.cells (RB.enc r) 27) = w0 := ⟨_, rfl⟩
  rw [hw0] at hR0 hb1
  have HA := hid (hA0.below hb1)
  have HB := hid (hb0.trans (hb1.mono hb0.size))
  have HRc := hid hR0
  have hXX := RB.lcf_eq
  have hsz16 := RB.enc_size hk.1
  clear hA0 hb0 hR0 hb1
  have HL0 := hid (HH.out.below HB.out)
  clear hAw hln ok hrb hr hl HI1 hL
  go_enter Try.func8, Try.ntmps8
  go_wp2_with fail
  try rw [hw0]
  clear hw0 hwa
  refine (HAw.out _).mono ?_
  rintro e1 w1 ⟨rfl, hb⟩
  replace HA := hid (HA.out.below hb)
  replace HRc := hid (HRc.out.below hb HRc.out.lt)
  replace HB := stp HB hb
  clear hb
  clear HAw
  go_wp2_with fail
  refine (HRt.out _ (HH.out.below HB.out)).mono ?_
  rintro e1 w2 ⟨rfl, hb⟩
  replace HA := hid (HA.out.below hb)
  replace HRc := hid (HRc.out.below hb HRc.out.lt)
  replace HB := stp HB hb
  clear hb HRt
  go_wp2_with fail
  refine (HI1'.out _ (HH.out.below HB.out)).mono ?_
  rintro e1 w3 ⟨s, m, c, rfl, hO, _, hg, _⟩
  have hb3 := gbelow hg (Nat.le_refl _) (fun k hk => by cases hk)
  replace HA := hid (HA.out.below hb3)
  replace HRc := hid (HRc.out.below hb3 HRc.out.lt)
  have hlm := hO.len
  have hmc := hO.cap
  have HLs := hid hO.lies
  have HO := hid hO
  have hs3 : w2.heap.size ≤ w3.heap.size := hb3.size
  have HSB := hid (show ∀ k, blk s = some k → w2.heap.size ≤ k ∧ k < w3.heap.size from fun k hk => by
    obtain ⟨A', hA', e⟩ := blk_at hk
    have := HO.out.at A' hA'
    omega)
  have HW2 := hid (show w.heap.size ≤ w2.heap.size from HB.out.size)
  replace HB := stp HB hb3
  have HCk := hid (fun W (h : LiesN W s L) => rcheckA s m c L hlm (by omega) i4 16 a b false W h)
  rw [hchk] at HCk
  clear hO hg hb3 HI1' HH HL0
  obtain ⟨_, a0, a1⟩ := HA.out
  have hla := HA.out.load
  go_wp2_with fail
  refine (HCk.out _ HLs.out).mono ?_
  rintro e1 w4 ⟨rfl, hb⟩
  replace HA := hid (HA.out.below hb)
  replace HRc := hid (HRc.out.below hb HRc.out.lt)
  replace HLs := hid (HLs.out.below hb)
  replace HO := hid (HO.out.below hb)
  have hs4 : w2.heap.size ≤ w4.heap.size := Nat.le_trans hs3 hb.size
  have hs34 : w3.heap.size ≤ w4.heap.size := hb.size
  replace HB := stp HB hb
  clear hb HCk a0 a1 hla
  have HHo := hid (fun W (h : LiesN W s L) (op : Int) (ho : TM.isQ op = true) (x y : Nat) (hx : x < m) (hy : y < m) (nt : Bool) => lholds hPl hKm hPa s m c L hlm (by omega) i2 i3 i4 r hk op ho x y hx hy nt W h)
  obtain ⟨X, hX⟩ : ∃ X, TM.val L r a = X := ⟨_, rfl⟩
  obtain ⟨Y, hY⟩ : ∃ Y, TM.val L r b = Y := ⟨_, rfl⟩
  have HE := hid (And.intro hX hY)
  have ham : a < m := by omega
  have hbm : b < m := by omega
  clear hPl hKm hPa hchk hX hY
  have H1 := hid (fun W h => HHo.out W h 32 (by decide) a b ham hbm false)
  have H2 := hid (fun W h => HHo.out W h 48 (by decide) b a hbm ham true)
  have H3 := hid (fun W h => HHo.out W h 48 (by decide) a b ham hbm false)
  have H4 := hid (fun W h => HHo.out W h 16 (by decide) b a hbm ham false)
  rw [HE.out.1, HE.out.2] at H1 H2 H3 H4
  obtain ⟨g1, hg1⟩ : ∃ z, (WM.ask 32 X Y != false) = z := ⟨_, rfl⟩
  obtain ⟨g2, hg2⟩ : ∃ z, (WM.ask 48 Y X != true) = z := ⟨_, rfl⟩
  obtain ⟨g3, hg3⟩ : ∃ z, (WM.ask 48 X Y != false) = z := ⟨_, rfl⟩
  obtain ⟨g4, hg4⟩ : ∃ z, (WM.ask 16 Y X != false) = z := ⟨_, rfl⟩
  rw [hg1] at H1
  rw [hg2] at H2
  rw [hg3] at H3
  rw [hg4] at H4
  have hgs : (g1 = false ∧ g2 = false ∧ g3 = false ∧ g4 = false) ∨ (g1 = false ∧ g2 = false ∧ g3 = true ∧ g4 = true) ∨ (g1 = true ∧ g2 = true ∧ g3 = true ∧ g4 = false) := by
    rw [TM.ask32] at hg1
    rw [TM.ask48] at hg2 hg3
    rw [TM.ask16] at hg4
    rw [← hg1, ← hg2, ← hg3, ← hg4]
    by_cases c1 : X < Y
    · left
      rw [decide_eq_false (by omega), decide_eq_true (by omega), decide_eq_false (by omega), beq_eq_false_iff_ne.2 (by omega)]; exact ⟨rfl, rfl, rfl, rfl⟩
    · by_cases c2 : X = Y
      · right; left
        rw [decide_eq_false (by omega), decide_eq_true (by omega), decide_eq_true (by omega), beq_iff_eq.2 c2.symm]; exact ⟨rfl, rfl, rfl, rfl⟩
      · right; right
        rw [decide_eq_true (by omega), decide_eq_false (by omega), decide_eq_true (by omega), beq_eq_false_iff_ne.2 (by omega)]; exact ⟨rfl, rfl, rfl, rfl⟩
  clear hg1 hg2 hg3 hg4 HE HHo
  rcases hgs with ⟨rfl, rfl, rfl, rfl⟩ | ⟨rfl, rfl, rfl, rfl⟩ | ⟨rfl, rfl, rfl, rfl⟩
  all_goals
    obtain ⟨_, a0, a1⟩ := HA.out
    have hla := HA.out.load
    have hld := HRc.out.load
    go_wp2_with fail
    refine (H1.out _ HLs.out).mono ?_
    rintro e1 w5 ⟨rfl, hb⟩
    replace HA := hid (HA.out.below hb)
    replace HRc := hid (HRc.out.below hb HRc.out.lt)
    replace HLs := hid (HLs.out.below hb)
    replace HB := stp HB hb
    clear hb H1 a0 a1 hla hld
    obtain ⟨_, a0, a1⟩ := HA.out
    have hla := HA.out.load
    have hld := HRc.out.load
    go_wp2_with fail
    refine (H2.out _ HLs.out).mono ?_
    rintro e1 w6 ⟨rfl, hb⟩
    replace HA := hid (HA.out.below hb)
    replace HRc := hid (HRc.out.below hb HRc.out.lt)
    replace HLs := hid (HLs.out.below hb)
    replace HB := stp HB hb
    clear hb H2 a0 a1 hla hld
    obtain ⟨_, a0, a1⟩ := HA.out
    have hla := HA.out.load
    have hld := HRc.out.load
    go_wp2_with fail
    refine (H3.out _ HLs.out).mono ?_
    rintro e1 w7 ⟨rfl, hb⟩
    replace HA := hid (HA.out.below hb)
    replace HRc := hid (HRc.out.below hb HRc.out.lt)
    replace HLs := hid (HLs.out.below hb)
    replace HB := stp HB hb
    clear hb H3 a0 a1 hla hld
    obtain ⟨_, a0, a1⟩ := HA.out
    have hla := HA.out.load
    have hld := HRc.out.load
    go_wp2_with fail
    refine (H4.out _ HLs.out).mono ?_
    rintro e1 w8 ⟨rfl, hb⟩
    replace HB := stp HB hb
    clear hb H4 a0 a1 hla hld
    go_wp2
    go_ret
    exact ⟨rfl, HB.out⟩
theorem asides_law (hAw : Aw13) {Pl : PoolIs} (hPl : PoolOk Pl) (hKm : KmOk Pl) (hPa : PfOk Pl) (A : Option Addr) (cap : Nat) (x0 x1 : Int) (r : List Int) (hk : R.okR r) (l : List TM.N) (hcap : l.length ≤ cap) (wx : (Lit.int .i64 x0).wf = true) (wy : (Lit.int .i64 x1).wf = true) (ok : ∀ x ∈ l, TM.okN x) (w : World) (hl : LiesN w A l) :
    Calls Try.prog 8 #[.slice A l.length cap, .agg #[.int .i64 x0, .int .i64 x1], .agg (RB.enc r)] w fun e w' => e = .returned (.bool true) ∧ Below w.heap.size w w' := by
  by_cases h : 60 < l.length
  · exact asides_big hAw A l.length cap x0 x1 r hk h w
  · cases hr : TM.rowB l with
    | false => exact asides_bad hAw A l.length cap x0 x1 r hk l rfl (by omega) ok hr w hl
    | true =>
      obtain ⟨L, hL⟩ : ∃ L, TM.pl [] l l.length = L := ⟨_, rfl⟩
      have hrow : TM.Row L := by
        rw [← hL]
        exact (TM.pl_inv (TM.row_iff.1 hr) ok TM.row_nil TM.once_nil (fun x hx => (by cases hx)) (by simp; omega) l.length (Nat.le_refl _)).2.1
      obtain ⟨q, hq⟩ : ∃ q, TM.chkA L 16 x0 x1 = q := ⟨_, rfl⟩
      by_cases hq0 : q = 0
      · subst hq0
        unfold TM.chkA at hq
        rw [if_pos (TM.row_iff.2 hrow), if_pos (by decide)] at hq
        have hin : ¬ (x0 < 0 ∨ (L.length : Int) ≤ x0 ∨ x1 < 0 ∨ (L.length : Int) ≤ x1) := fun e => by rw [if_pos e] at hq; exact absurd hq (by decide)
        obtain ⟨a', rfl⟩ : ∃ a' : Nat, x0 = a' := ⟨x0.toNat, by omega⟩
        obtain ⟨b', rfl⟩ : ∃ b' : Nat, x1 = b' := ⟨x1.toNat, by omega⟩
        exact asides_good hAw hPl hKm hPa A l.length cap a' b' r hk l rfl (by omega) ok hr (fun L' hL' => by rw [← hL', hL]; omega) w hl
      · exact asides_none hAw A l.length cap x0 x1 r hk l rfl (by omega) ok hr q hq0 (fun L' hL' => by rw [← hL', hL]; exact hq) w hl
end Go.Proofs.Ytkeigicobcjleaa.TB
