/-
  The walk of the statement SimpMake, over what the program's own functions answer.
-/
import Derived.Test.YtapbeffjnpgglaaSimLawP
import Derived.Test.YtapbeffjnpgglaaSimRefE
import Derived.Test.YtapbeffjnpgglaaSimPool
import Derived.Test.YtapbeffjnpgglaaTerLawV
namespace Go.Proofs.Ytapbeffjnpgglaa.TB
open Go.ChangeShapes Go.WideShapes Go.ChangeAt Go.RowKit
open Go.Sort hiding Below
set_option linter.unusedVariables false
set_option maxRecDepth 100000

/-- two ints in a block -/
structure At2 (W : World) (b : Nat) (x y : Int) : Prop where
  lt : b < W.heap.size
  c0 : W.cell? ⟨b, 0, none⟩ = some (.int .i64 x)
  c1 : W.cell? ⟨b, 1, none⟩ = some (.int .i64 y)
theorem At2.new (w : World) (x y : Int) (T : TypeId) : At2 (w.alloc (.cells #[.int .i64 x, .int .i64 y] T)) w.heap.size x y :=
  ⟨by simp, cell_lit w [.int .i64 x, .int .i64 y] T 0, cell_lit w [.int .i64 x, .int .i64 y] T 1⟩
theorem At2.below {W W' : World} {b : Nat} {x y : Int} (h : At2 W b x y) (hb : Below W.heap.size W W') : At2 W' b x y :=
  ⟨Nat.lt_of_lt_of_le h.lt hb.size, (hb.cell (p := ⟨b, 0, none⟩) h.lt).trans h.c0, (hb.cell (p := ⟨b, 1, none⟩) h.lt).trans h.c1⟩

set_option maxHeartbeats 1600000 in
set_option maxRecDepth 100000 in
theorem smake_big (hAw : Aw12) (A : Option Addr) (n cap : Nat) (op x0 x1 : Int) (hn : 60 < n) (w : World) :
    Calls Try.prog 3 #[.slice A n cap, .int .i64 op, .agg #[.int .i64 x0, .int .i64 x1]] w fun e w' => e = .returned (.bool true) ∧ Below w.heap.size w w' := by
  have hd : decide (60 < (n : Int)) = true := decide_eq_true (by omega)
  have hz : ((n : Int) == 0) = false := beq_eq_false_iff_ne.2 (by omega)
  have HB := hid (al w (.cells #[.int .i64 x0, .int .i64 x1] 23))
  have HAw := hid hAw
  clear hn hAw
  go_enter Try.func3, Try.ntmps3
  go_wp2_with fail
  refine (HAw.out _).mono ?_
  rintro e w1 ⟨rfl, hb⟩
  replace HB := stp HB hb
  clear hb
  go_wp2_with fail
  refine (HAw.out _).mono ?_
  rintro e w2 ⟨rfl, hb⟩
  replace HB := stp HB hb
  clear hb
  go_wp2
  go_ret
  exact ⟨rfl, HB.out⟩
set_option maxHeartbeats 1600000 in
set_option maxRecDepth 100000 in
theorem smake_bad (hAw : Aw12) (A : Option Addr) (n cap : Nat) (op x0 x1 : Int) (l : List TM.N) (hln : l.length = n) (hn : n ≤ 60) (h0 : 0 < n) (ok : ∀ x ∈ l, TM.okN x) (hr : TM.rowB l = false) (w : World) (hl : LiesN w A l) :
    Calls Try.prog 3 #[.slice A n cap, .int .i64 op, .agg #[.int .i64 x0, .int .i64 x1]] w fun e w' => e = .returned (.bool true) ∧ Below w.heap.size w w' := by
  have hd : decide (60 < (n : Int)) = false := decide_eq_false (by omega)
  have hz : ((n : Int) == 0) = false := beq_eq_false_iff_ne.2 (by omega)
  have HB := hid (al w (.cells #[.int .i64 x0, .int .i64 x1] 23))
  have HAw := hid hAw
  have HRt := hid (fun W (h : LiesN W A l) => rrow_any A n cap l hln (by omega) ok W h false hr)
  have HL := hid hl
  clear hn hAw hln ok hr hl h0
  go_enter Try.func3, Try.ntmps3
  go_wp2_with fail
  refine (HAw.out _).mono ?_
  rintro e w1 ⟨rfl, hb⟩
  replace HB := stp HB hb
  clear hb
  go_wp2_with fail
  refine (HRt.out _ (HL.out.below HB.out)).mono ?_
  rintro e w2 ⟨rfl, hb⟩
  replace HB := stp HB hb
  clear hb
  go_wp2_with fail
  refine (HAw.out _).mono ?_
  rintro e w3 ⟨rfl, hb⟩
  replace HB := stp HB hb
  clear hb
  go_wp2
  go_ret
  exact ⟨rfl, HB.out⟩

set_option maxHeartbeats 6400000 in
set_option maxRecDepth 1000000 in
theorem smake_arg {Pl : PoolIs} (hPl : PoolOk Pl) (hAw : Aw12) (hSk : SkArg Pl) (A : Option Addr) (n cap : Nat) (op x0 x1 : Int) (wo : (Lit.int .i64 op).wf = true) (wx : (Lit.int .i64 x0).wf = true) (wy : (Lit.int .i64 x1).wf = true) (l : List TM.N) (hln : l.length = n) (hn : n ≤ 60) (ok : ∀ x ∈ l, TM.okN x) (hrb : TM.rowB l = true) (w : World) (hl : LiesN w A l)
    (hcase : TM.isOp op = false) :
    Calls Try.prog 3 #[.slice A n cap, .int .i64 op, .agg #[.int .i64 x0, .int .i64 x1]] w fun e w' => e = .returned (.bool true) ∧ Below w.heap.size w w' := by
  have hd : decide (60 < (n : Int)) = false := decide_eq_false (by omega)
  have hr := TM.row_iff.1 hrb
  obtain ⟨w0, hw0⟩ : ∃ w0, w.alloc (.cells #[.int .i64 x0, .int .i64 x1] 23) = w0 := ⟨_, rfl⟩
  have HB0 := hid (show Below w.heap.size w w0 from by rw [← hw0]; exact al w _)
  have HX := hid (show At2 w0 w.heap.size x0 x1 from by rw [← hw0]; exact At2.new w x0 x1 23)
  have HAw := hid hAw
  have HP := hid hPl
  have HRt := hid (fun W (h : LiesN W A l) => rrow_any A n cap l hln (by omega) ok W h true hrb)
  have HI1 := hid (fun W (h : LiesN W A l) => rinto_any W.heap.size 0 0 none [] A n cap l hln hr ok TM.row_nil TM.once_nil (fun x hx => (by cases hx)) (by simp; omega) W h (Nat.le_refl _) (fun h0 B hB => by
    obtain ⟨b, o, rfl, hh⟩ := h.ly (by omega)
    injection hB with hB; subst hB; exact hh.1) (OwnN.nil _ _))
  have hinv := TM.pl_inv hr ok TM.row_nil TM.once_nil (fun x hx => (by cases hx)) (by simp; omega) n (by rw [hln]; exact Nat.le_refl _)
  obtain ⟨L, hL⟩ : ∃ L, TM.pl [] l n = L := ⟨_, rfl⟩
  rw [hL] at hinv
  have HI1' := hid (fun W h => by have := HI1.out W h; rw [hL] at this; exact this)
  obtain ⟨i1, i2, i3, i4, _⟩ := hinv
  simp only [List.length_nil, Nat.zero_add] at i1
  have HLp := hid (fun a m c (e : L.length = m) W (h : LiesN W a L) => lpool hPl a m c L e (by omega) i2 i3 i4 W h)
  have HH := hid (And.intro hln (hl.below HB0.out))
  clear hAw hPl hln ok hrb hr hl HI1 hL
  go_enter Try.func3, Try.ntmps3
  go_wp2_with fail
  try rw [hw0]
  clear hw0
  refine (HAw.out _).mono ?_
  rintro e1 w1 ⟨rfl, hb⟩
  have HB := hid hb
  clear hb HAw
  go_wp2_with fail
  refine (HRt.out _ (HH.out.2.below HB.out)).mono ?_
  rintro e1 w2 ⟨rfl, hb⟩
  replace HB := stp HB hb
  clear hb HRt
  go_wp2_with fail
  refine (HI1'.out _ (HH.out.2.below HB.out)).mono ?_
  rintro e1 w3 ⟨s, m, c, rfl, hO, _, hg, _⟩
  have hb3 := gbelow hg (Nat.le_refl _) (fun k hk => by cases hk)
  have HO := hid (And.intro hO hb3.size)
  have HW2 := hid (show w0.heap.size ≤ w2.heap.size from HB.out.size)
  replace HB := stp HB hb3
  have hlm := hO.len
  clear hO hg hb3 HI1'
  go_wp2_with fail
  refine (HLp.out s m c hlm _ HO.out.1.lies).mono ?_
  rintro e1 w4 ⟨v, F, rfl, hpl, hb, hF⟩
  have HQ := hid (And.intro hpl (And.intro hb hF))
  clear hpl hb hF HLp
  have hX := (HX.out.below (stp HB HQ.out.2.1).out)
  obtain ⟨_, c0, c1⟩ := hX
  go_wp2_with fail
  refine (hSk _ F v L op x0 x1 HQ.out.1 hcase wo wx wy).mono ?_
  rintro e1 w5 ⟨rfl, hb⟩
  have HBf := hid (HB0.out.trans ((stp (stp HB HQ.out.2.1) hb).out.mono HB0.out.size))
  clear hb c0 c1
  go_wp2_with fail
  refine (risop op _).mono ?_
  rintro e1 w6 ⟨rfl, rfl⟩
  rw [hcase]
  go_wp2
  go_ret
  exact ⟨rfl, HBf.out⟩

set_option maxHeartbeats 6400000 in
set_option maxRecDepth 1000000 in
theorem smake_out {Pl : PoolIs} (hPl : PoolOk Pl) (hAw : Aw12) (hSk : SkRange Pl) (A : Option Addr) (n cap : Nat) (op x0 x1 : Int) (wo : (Lit.int .i64 op).wf = true) (wx : (Lit.int .i64 x0).wf = true) (wy : (Lit.int .i64 x1).wf = true) (l : List TM.N) (hln : l.length = n) (hn : n ≤ 60) (ok : ∀ x ∈ l, TM.okN x) (hrb : TM.rowB l = true) (w : World) (hl : LiesN w A l)
    (hcase : TM.isOp op = true ∧ ∀ L : List TM.N, TM.pl [] l n = L → ((x0 < 0 ∨ (L.length : Int) ≤ x0) ∨ (op ≠ 128 ∧ (x1 < 0 ∨ (L.length : Int) ≤ x1)))) :
    Calls Try.prog 3 #[.slice A n cap, .int .i64 op, .agg #[.int .i64 x0, .int .i64 x1]] w fun e w' => e = .returned (.bool true) ∧ Below w.heap.size w w' := by
  have hd : decide (60 < (n : Int)) = false := decide_eq_false (by omega)
  have hr := TM.row_iff.1 hrb
  obtain ⟨w0, hw0⟩ : ∃ w0, w.alloc (.cells #[.int .i64 x0, .int .i64 x1] 23) = w0 := ⟨_, rfl⟩
  have HB0 := hid (show Below w.heap.size w w0 from by rw [← hw0]; exact al w _)
  have HX := hid (show At2 w0 w.heap.size x0 x1 from by rw [← hw0]; exact At2.new w x0 x1 23)
  have HAw := hid hAw
  have HP := hid hPl
  have HRt := hid (fun W (h : LiesN W A l) => rrow_any A n cap l hln (by omega) ok W h true hrb)
  have HI1 := hid (fun W (h : LiesN W A l) => rinto_any W.heap.size 0 0 none [] A n cap l hln hr ok TM.row_nil TM.once_nil (fun x hx => (by cases hx)) (by simp; omega) W h (Nat.le_refl _) (fun h0 B hB => by
    obtain ⟨b, o, rfl, hh⟩ := h.ly (by omega)
    injection hB with hB; subst hB; exact hh.1) (OwnN.nil _ _))
  have hinv := TM.pl_inv hr ok TM.row_nil TM.once_nil (fun x hx => (by cases hx)) (by simp; omega) n (by rw [hln]; exact Nat.le_refl _)
  obtain ⟨L, hL⟩ : ∃ L, TM.pl [] l n = L := ⟨_, rfl⟩
  rw [hL] at hinv
  have HI1' := hid (fun W h => by have := HI1.out W h; rw [hL] at this; exact this)
  obtain ⟨i1, i2, i3, i4, _⟩ := hinv
  simp only [List.length_nil, Nat.zero_add] at i1
  have HLp := hid (fun a m c (e : L.length = m) W (h : LiesN W a L) => lpool hPl a m c L e (by omega) i2 i3 i4 W h)
  have HH := hid (And.intro hln (hl.below HB0.out))
  have hop0 := hcase.1
  replace hcase := hcase.2 L hL
  clear hAw hPl hln ok hrb hr hl HI1 hL
  go_enter Try.func3, Try.ntmps3
  go_wp2_with fail
  try rw [hw0]
  clear hw0
  refine (HAw.out _).mono ?_
  rintro e1 w1 ⟨rfl, hb⟩
  have HB := hid hb
  clear hb HAw
  go_wp2_with fail
  refine (HRt.out _ (HH.out.2.below HB.out)).mono ?_
  rintro e1 w2 ⟨rfl, hb⟩
  replace HB := stp HB hb
  clear hb HRt
  go_wp2_with fail
  refine (HI1'.out _ (HH.out.2.below HB.out)).mono ?_
  rintro e1 w3 ⟨s, m, c, rfl, hO, _, hg, _⟩
  have hb3 := gbelow hg (Nat.le_refl _) (fun k hk => by cases hk)
  have HO := hid (And.intro hO hb3.size)
  have HW2 := hid (show w0.heap.size ≤ w2.heap.size from HB.out.size)
  replace HB := stp HB hb3
  have hlm := hO.len
  clear hO hg hb3 HI1'
  go_wp2_with fail
  refine (HLp.out s m c hlm _ HO.out.1.lies).mono ?_
  rintro e1 w4 ⟨v, F, rfl, hpl, hb, hF⟩
  have HQ := hid (And.intro hpl (And.intro hb hF))
  clear hpl hb hF HLp
  have hX := (HX.out.below (stp HB HQ.out.2.1).out)
  obtain ⟨_, c0, c1⟩ := hX
  have hout : (x0 < 0 ∨ (m : Int) ≤ x0) ∨ (op ≠ 128 ∧ (x1 < 0 ∨ (m : Int) ≤ x1)) := by rw [← hlm]; exact hcase
  have hop := hop0
  go_wp2_with fail
  refine (hSk _ F v L op x0 x1 HQ.out.1 i4 hop wx wy (by rw [hlm]; exact hout)).mono ?_
  rintro e1 w5 ⟨rfl, hb⟩
  have HBf := hid (HB0.out.trans ((stp (stp HB HQ.out.2.1) hb).out.mono HB0.out.size))
  have hX5 := HX.out.below (stp (stp HB HQ.out.2.1) hb).out
  obtain ⟨_, c0', c1'⟩ := hX5
  clear hb c0 c1
  go_wp2_with fail
  refine (risop op _).mono ?_
  rintro e1 w6 ⟨rfl, rfl⟩
  rw [hop]
  have hc : decide (x0 < 0) = true ∨ (decide (x0 < 0) = false ∧ decide ((m : Int) ≤ x0) = true) ∨ (decide (x0 < 0) = false ∧ decide ((m : Int) ≤ x0) = false ∧ (op != 128) = true ∧ (decide (x1 < 0) = true ∨ (decide (x1 < 0) = false ∧ decide ((m : Int) ≤ x1) = true))) := by
    by_cases a1 : x0 < 0
    · exact .inl (decide_eq_true a1)
    · by_cases a2 : (m : Int) ≤ x0
      · exact .inr (.inl ⟨decide_eq_false a1, decide_eq_true a2⟩)
      · rcases hout with h | ⟨h1, h2⟩
        · omega
        · refine .inr (.inr ⟨decide_eq_false a1, decide_eq_false a2, by simp [h1], ?_⟩)
          by_cases a3 : x1 < 0
          · exact .inl (decide_eq_true a3)
          · exact .inr ⟨decide_eq_false a3, decide_eq_true (by omega)⟩
  clear hout hcase
  rcases hc with d1 | ⟨d1, d2⟩ | ⟨d1, d2, d3, d4 | ⟨d4, d5⟩⟩
  all_goals
    go_wp2
    go_ret
    exact ⟨rfl, HBf.out⟩

set_option maxHeartbeats 6400000 in
set_option maxRecDepth 1000000 in
theorem smake_in {Pl : PoolIs} (hPl : PoolOk Pl) (hAw : Aw12) (hSk : SkOk Pl) (hPa : PaOk Pl) (A : Option Addr) (n cap : Nat) (op x0 x1 : Int) (wo : (Lit.int .i64 op).wf = true) (wx : (Lit.int .i64 x0).wf = true) (wy : (Lit.int .i64 x1).wf = true) (l : List TM.N) (hln : l.length = n) (hn : n ≤ 60) (ok : ∀ x ∈ l, TM.okN x) (hrb : TM.rowB l = true) (w : World) (hl : LiesN w A l)
    (hcase : TM.isOp op = true ∧ ∀ L : List TM.N, TM.pl [] l n = L → ((0 ≤ x0 ∧ x0 < (L.length : Int)) ∧ (op ≠ 128 → 0 ≤ x1 ∧ x1 < (L.length : Int)))) :
    Calls Try.prog 3 #[.slice A n cap, .int .i64 op, .agg #[.int .i64 x0, .int .i64 x1]] w fun e w' => e = .returned (.bool true) ∧ Below w.heap.size w w' := by
  have hd : decide (60 < (n : Int)) = false := decide_eq_false (by omega)
  have hr := TM.row_iff.1 hrb
  obtain ⟨w0, hw0⟩ : ∃ w0, w.alloc (.cells #[.int .i64 x0, .int .i64 x1] 23) = w0 := ⟨_, rfl⟩
  have HB0 := hid (show Below w.heap.size w w0 from by rw [← hw0]; exact al w _)
  have HX := hid (show At2 w0 w.heap.size x0 x1 from by rw [← hw0]; exact At2.new w x0 x1 23)
  have HAw := hid hAw
  have HP := hid hPl
  have HRt := hid (fun W (h : LiesN W A l) => rrow_any A n cap l hln (by omega) ok W h true hrb)
  have HI1 := hid (fun W (h : LiesN W A l) => rinto_any W.heap.size 0 0 none [] A n cap l hln hr ok TM.row_nil TM.once_nil (fun x hx => (by cases hx)) (by simp; omega) W h (Nat.le_refl _) (fun h0 B hB => by
    obtain ⟨b, o, rfl, hh⟩ := h.ly (by omega)
    injection hB with hB; subst hB; exact hh.1) (OwnN.nil _ _))
  have hinv := TM.pl_inv hr ok TM.row_nil TM.once_nil (fun x hx => (by cases hx)) (by simp; omega) n (by rw [hln]; exact Nat.le_refl _)
  obtain ⟨L, hL⟩ : ∃ L, TM.pl [] l n = L := ⟨_, rfl⟩
  rw [hL] at hinv
  have HI1' := hid (fun W h => by have := HI1.out W h; rw [hL] at this; exact this)
  obtain ⟨i1, i2, i3, i4, _⟩ := hinv
  simp only [List.length_nil, Nat.zero_add] at i1
  have HLp := hid (fun a m c (e : L.length = m) W (h : LiesN W a L) => lpool hPl a m c L e (by omega) i2 i3 i4 W h)
  have HH := hid (And.intro hln (hl.below HB0.out))
  have hop0 := hcase.1
  replace hcase := hcase.2 L hL
  clear hAw hPl hln ok hrb hr hl HI1 hL
  go_enter Try.func3, Try.ntmps3
  go_wp2_with fail
  try rw [hw0]
  clear hw0
  refine (HAw.out _).mono ?_
  rintro e1 w1 ⟨rfl, hb⟩
  have HB := hid hb
  clear hb HAw
  go_wp2_with fail
  refine (HRt.out _ (HH.out.2.below HB.out)).mono ?_
  rintro e1 w2 ⟨rfl, hb⟩
  replace HB := stp HB hb
  clear hb HRt
  go_wp2_with fail
  refine (HI1'.out _ (HH.out.2.below HB.out)).mono ?_
  rintro e1 w3 ⟨s, m, c, rfl, hO, _, hg, _⟩
  have hb3 := gbelow hg (Nat.le_refl _) (fun k hk => by cases hk)
  have HO := hid (And.intro hO hb3.size)
  have HW2 := hid (show w0.heap.size ≤ w2.heap.size from HB.out.size)
  replace HB := stp HB hb3
  have hlm := hO.len
  clear hO hg hb3 HI1'
  go_wp2_with fail
  refine (HLp.out s m c hlm _ HO.out.1.lies).mono ?_
  rintro e1 w4 ⟨v, F, rfl, hpl, hb, hF⟩
  have HQ := hid (And.intro hpl (And.intro hb hF))
  clear hpl hb hF HLp
  have hX := (HX.out.below (stp HB HQ.out.2.1).out)
  obtain ⟨_, c0, c1⟩ := hX
  have hop := hop0
  rw [hlm] at hcase
  obtain ⟨a, rfl⟩ := Int.eq_ofNat_of_zero_le hcase.1.1
  obtain ⟨b, hbm, hbx, hb0⟩ : ∃ b : Nat, (op ≠ 128 → b < m ∧ x1 = b) ∧ (op ≠ 128 → (b : Int) = x1) ∧ (op = 128 → b = 0) := by
    by_cases h : op = 128
    · exact ⟨0, fun g => absurd h g, fun g => absurd h g, fun _ => rfl⟩
    · have := hcase.2 h
      exact ⟨x1.toNat, fun _ => ⟨by omega, by omega⟩, fun _ => by omega, fun g => absurd g h⟩
  have ham : a < m := by have := hcase.1.2; omega
  obtain ⟨t, ht⟩ : ∃ t, TM.mkT op (TM.tr L a) (TM.tr L b) = t := ⟨_, rfl⟩
  have hbd : TM.clT op (TM.tr L a) + TM.clT op (TM.tr L b) + 2 ≤ 130 := by
    by_cases h : op = 128
    · have hz : ∀ u, TM.clT op u = 0 := fun u => TM.clT_flat (by
        unfold TM.chn
        split
        · rw [if_neg (by rw [h]; rintro ⟨g, _⟩; revert g; decide)]
        · rfl)
      rw [hz, hz]; omega
    · have h1 := TM.clT_le i2 h a (by omega)
      have h2 := TM.clT_le i2 h b (by have := (hbm h).1; omega)
      have h3 := (hbm h).1
      omega
  have HMk := hid (fun (bI : Int) (hbI : bI = b) W (h : OwnN W w2.heap.size s m c L) (hbs : w2.heap.size ≤ W.heap.size) => (by
    subst hbI
    have := rmake_any op hop w2.heap.size m c a b s L (by omega) i2 i3 i4 ham (fun g => (hbm g).1) W h hbs
    rw [ht] at this
    exact this.mono fun _ _ h => h.more hbd : Calls Try.prog 15 #[.slice s m c, .int .i64 op, .int .i64 a, .int .i64 bI] W fun e w' => RowAt w2.heap.size W s L t 130 e w'))
  have HSk := hid (by
    have := hSk _ F v L op a b x1 HQ.out.1 i2 i3 i4 (by omega) hop (by omega) (fun g => ⟨by rw [hlm]; exact (hbm g).1, (hbm g).2⟩) wy
    rw [ht] at this
    exact this)
  have hmb : m ≤ 60 := by omega
  have HB0w := hid (show w0.heap.size ≤ w2.heap.size from HW2.out)
  have d1 : decide ((a : Int) < 0) = false := decide_eq_false (by omega)
  have d2 : decide ((m : Int) ≤ (a : Int)) = false := decide_eq_false (by omega)
  clear ht
  go_wp2_with fail
  refine HSk.out.mono ?_
  rintro e1 w5 ⟨F', L', q, rfl, hM, hML, hpl', hfr, hF'⟩
  have hb5 : Below w3.heap.size w3 w5 := hfr.below HQ.out.2.1 HQ.out.2.2 HQ.out.2.1.size
  have HR5 := hid (And.intro hM (And.intro hpl' (And.intro hb5 (And.intro (show ∀ b, F' b → w3.heap.size ≤ b from fun b hb => by
    rcases hF' b hb with h | h
    · exact HQ.out.2.2 b h
    · have := HQ.out.2.1.size; omega) (show L'.length ≤ 60 + 130 from by omega)))))
  obtain ⟨_, c0', c1'⟩ := HX.out.below (stp HB hb5).out
  clear hM hML hpl' hfr hF' hb5 HSk c0 c1 hbd
  go_wp2_with fail
  refine (risop op _).mono ?_
  rintro e1 w6 ⟨rfl, rfl⟩
  rw [hop]
  have hsb : ∀ k, blk s = some k → w2.heap.size ≤ k ∧ k < w3.heap.size := fun k hk => by
    obtain ⟨A', hA', e⟩ := blk_at hk
    have := HO.out.1.at A' hA'
    omega
  have HSB := hid hsb
  obtain ⟨k, hk⟩ : ∃ k, L'.length = k := ⟨_, rfl⟩
  have hmk : m ≤ k := by rw [← hk, ← hlm]; exact HR5.out.1.len
  have hqk : q < k := by rw [← hk]; exact HR5.out.1.lt
  have hk190 : k ≤ 190 := by rw [← hk]; exact HR5.out.2.2.2.2
  have d5 : decide ((k : Int) ≤ (q : Int)) = false := decide_eq_false (by omega)
  have d6 : decide ((k : Int) < (m : Int)) = false := decide_eq_false (by omega)
  have HKK := hid hk
  clear hsb hk
  have hops : ((op != 128) = false ∧ (op == 128) = true ∧ b = 0) ∨ ((op != 128) = true ∧ (op == 128) = false ∧ x1 = b ∧ b < m) := by
    by_cases h : op = 128
    · exact .inl ⟨by simp [h], by simp [h], hb0 h⟩
    · exact .inr ⟨by simp [h], by simp [h], (hbm h).2, (hbm h).1⟩
  clear hbm hbx hb0 hcase hop0
  rcases hops with ⟨z1, z2, rfl⟩ | ⟨z1, z2, rfl, hbm⟩
  case' inr =>
    have d3 : decide ((b : Int) < 0) = false := decide_eq_false (by omega)
    have d4 : decide ((m : Int) ≤ (b : Int)) = false := decide_eq_false (by omega)
  all_goals
    go_wp2_with fail
    refine (HMk.out _ (by first | rfl | omega | simp) _ (HO.out.1.below HR5.out.2.2.1) (Nat.le_trans HO.out.2 HR5.out.2.2.1.size)).mono ?_
    rintro e1 w7 ⟨s', n', c', L2, q2, rfl, hO2, hg, hat, hls, hM2, hM2L⟩
    have hpl7 : Pl w7 F' v L' := HP.out.keep w6 w7 F' v L' HR5.out.2.1 hg.size (fun b hb => hg.block b (HP.out.lt _ _ _ _ HR5.out.2.1 b hb) (fun e => by
      have := HSB.out b e.symm
      have := HR5.out.2.2.2.1 b hb
      omega))
    have hw26 : w2.heap.size ≤ w6.heap.size := Nat.le_trans HO.out.2 HR5.out.2.2.1.size
    have hbw0 : Below w0.heap.size w0 w7 := ((stp HB HR5.out.2.2.1).out).grown hg (stp HB HR5.out.2.2.1).out.size (fun k hk => by
      have := (HSB.out k hk).1
      have := HB0w.out
      omega)
    have HR7 := hid (And.intro hpl7 (And.intro hO2 (And.intro hls (And.intro hM2 (And.intro hbw0 hM2L)))))
    clear hO2 hg hat hls hM2 hM2L hpl7 hw26 hbw0 HMk c0' c1'
    go_wp2_with fail
    refine (hPa _ F' v L' HR7.out.1).mono ?_
    rintro e1 w8 ⟨a6, c6, rfl, hc6, hl6, hb⟩
    rw [HKK.out] at hc6
    have hc6' : (m : Int) ≤ (c6 : Int) := by omega
    rw [HKK.out]
    have HR8 := hid (show OwnN w8 w2.heap.size s' n' c' L2 ∧ LiesN w8 s L ∧ TM.Made L L2 t q2 ∧ Below w0.heap.size w0 w8 ∧ LiesN w8 a6 L' ∧ L2.length ≤ L.length + 130 from ⟨HR7.out.2.1.below hb, HR7.out.2.2.1.below hb, HR7.out.2.2.2.1, (stp (hid HR7.out.2.2.2.2.1) hb).out, hl6, HR7.out.2.2.2.2.2⟩)
    clear hl6 hb HR7
    go_wp2_with fail
    refine (rrow_any a6 k c6 L' HKK.out (by omega) HR5.out.1.ok _ HR8.out.2.2.2.2.1 true (TM.row_iff.2 HR5.out.1.row)).mono ?_
    rintro e1 w9 ⟨rfl, hb⟩
    have HR9 := hid (show OwnN w9 w2.heap.size s' n' c' L2 ∧ LiesN w9 s L ∧ TM.Made L L2 t q2 ∧ Below w0.heap.size w0 w9 ∧ LiesN w9 a6 L' ∧ L2.length ≤ L.length + 130 from ⟨HR8.out.1.below hb, HR8.out.2.1.below hb, HR8.out.2.2.1, (stp (hid HR8.out.2.2.2.1) hb).out, HR8.out.2.2.2.2.1.below hb, HR8.out.2.2.2.2.2⟩)
    clear hb HR8
    have hl6 : LiesN w9 a6 L := by
      obtain ⟨E, hE⟩ := HR5.out.1.pre
      have := HR9.out.2.2.2.2.1
      rw [hE] at this
      exact lies_pre this
    have HSm := hid (rsame_any a6 s L L m m c6 c w9 hlm hlm hl6 HR9.out.2.1 (by omega) (by omega) true (by simp))
    clear hl6
    go_wp2_with fail
    refine HSm.out.mono ?_
    rintro e1 w10 ⟨rfl, hb⟩
    have HR10 := hid (show OwnN w10 w2.heap.size s' n' c' L2 ∧ TM.Made L L2 t q2 ∧ Below w0.heap.size w0 w10 ∧ LiesN w10 a6 L' ∧ L2.length ≤ L.length + 130 from ⟨HR9.out.1.below hb, HR9.out.2.2.1, (stp (hid HR9.out.2.2.2.1) hb).out, HR9.out.2.2.2.2.1.below hb, HR9.out.2.2.2.2.2⟩)
    clear hb HR9 HSm
    have hn2 : n' ≤ 200 := by have h1 := HR10.out.1.len; have := HR10.out.2.2.2.2; omega
    go_wp2_with (at_builtin; refine wpList_append_nodes (by rfl) _ _ rfl w10.heap.size 0 n' 0 c' (some ⟨w10.heap.size, 0, none⟩) s' [] L2 rfl (own_new w10) rfl (HR10.out.1.below (al w10 _)).lies HR10.out.1.len (by omega) (by simp) ?_)
    intro a7 c7 w11 hown hb
    try simp only [Nat.zero_add, List.nil_append] at hown
    have hb2 := (al w10 (.cells #[] 58)).trans hb
    have HR11 := hid (show OwnN w11 w10.heap.size a7 n' c7 L2 ∧ TM.Made L L2 t q2 ∧ Below w0.heap.size w0 w11 ∧ LiesN w11 a6 L' from ⟨hown, HR10.out.2.1, (stp (hid HR10.out.2.2.1) hb2).out, HR10.out.2.2.2.1.below hb2⟩)
    have hsz : w10.heap.size ≤ w11.heap.size := hb2.size
    have HI2 := hid (rinto_any w10.heap.size n' c7 a7 L2 a6 k c6 L' HKK.out HR5.out.1.row HR5.out.1.ok HR11.out.2.1.row HR11.out.2.1.once HR11.out.2.1.ok (by have := HR11.out.1.len; omega) w11 HR11.out.2.2.2 hsz (fun h0 B hB => by
      obtain ⟨b', o', e, hh⟩ := HR10.out.2.2.2.1.ly (by rw [HKK.out]; exact h0)
      rw [e] at hB
      injection hB with hB; subst hB; exact hh.1) HR11.out.1)
    have hkey : TM.plc L2 L' q = q2 := by
      have hM := HR11.out.2.1
      exact (TM.plc_of_tr HR5.out.1.row HR5.out.1.ok hM.row hM.once hM.ok (by rw [HKK.out]; have := HR11.out.1.len; omega) (by rw [HKK.out]; exact hqk) hM.lt).2 (by rw [HR5.out.1.tr, hM.tr])
    have HW10 := hid (show w0.heap.size ≤ w10.heap.size from HR10.out.2.2.1.size)
    clear hown hb hb2 HR10 hsz
    try simp only [Nat.zero_add]
    go_wp2_with fail
    refine HI2.out.mono ?_
    rintro e1 w12 ⟨a8, m8, c8, rfl, _, hRp, hg, hat8⟩
    have HF := hid (show Below w.heap.size w w12 from HB0.out.trans ((HR11.out.2.2.1.grown hg HR11.out.2.2.1.size (fun z hz => by
      obtain ⟨A', hA', e⟩ := blk_at hz
      have h1 := (HR11.out.1.at A' hA').1
      have h2 := HW10.out
      omega)).mono HB0.out.size))
    have xq := hRp.cell q hqk
    rw [hkey] at xq
    have d9 : ((q2 : Int) == (q2 : Int)) = true := by simp
    clear hRp hg hat8 HI2 hkey HR11 HR5
    go_wp2
    go_ret
    exact ⟨rfl, HF.out⟩
theorem smake_law {Pl : PoolIs} (hPl : PoolOk Pl) (hPa : PaOk Pl) (hAw : Aw12) (hSa : SkArg Pl) (hSr : SkRange Pl) (hSk : SkOk Pl) (A : Option Addr) (cap : Nat) (op x0 x1 : Int) (wo : (Lit.int .i64 op).wf = true) (wx : (Lit.int .i64 x0).wf = true) (wy : (Lit.int .i64 x1).wf = true) (l : List TM.N) (ok : ∀ x ∈ l, TM.okN x) (w : World) (hl : LiesN w A l) :
    Calls Try.prog 3 #[.slice A l.length cap, .int .i64 op, .agg #[.int .i64 x0, .int .i64 x1]] w fun e w' => e = .returned (.bool true) ∧ Below w.heap.size w w' := by
  by_cases h : 60 < l.length
  · exact smake_big hAw A l.length cap op x0 x1 h w
  · cases hr : TM.rowB l with
    | false =>
      by_cases h0 : 0 < l.length
      · exact smake_bad hAw A l.length cap op x0 x1 l rfl (by omega) h0 ok hr w hl
      · have e : l = [] := List.eq_nil_of_length_eq_zero (by omega)
        subst e; exact absurd hr (by decide)
    | true =>
      cases hop : TM.isOp op with
      | false => exact smake_arg hPl hAw hSa A l.length cap op x0 x1 wo wx wy l rfl (by omega) ok hr w hl hop
      | true =>
        obtain ⟨L, hL⟩ : ∃ L, TM.pl [] l l.length = L := ⟨_, rfl⟩
        by_cases ho : (x0 < 0 ∨ (L.length : Int) ≤ x0) ∨ (op ≠ 128 ∧ (x1 < 0 ∨ (L.length : Int) ≤ x1))
        · exact smake_out hPl hAw hSr A l.length cap op x0 x1 wo wx wy l rfl (by omega) ok hr w hl ⟨hop, fun L' hL' => by rw [← hL', hL]; exact ho⟩
        · refine smake_in hPl hAw hSk hPa A l.length cap op x0 x1 wo wx wy l rfl (by omega) ok hr w hl ⟨hop, fun L' hL' => ?_⟩
          rw [← hL', hL]
          refine ⟨by omega, fun g => ?_⟩
          have : ¬ (x1 < 0 ∨ (L.length : Int) ≤ x1) := fun h => ho (.inr ⟨g, h⟩)
          omega
end Go.Proofs.Ytapbeffjnpgglaa.TB
