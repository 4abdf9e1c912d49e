/-
  Layer 13's helper that makes an atom of two places of a row, in a pool of its own, as a walk over what the program's own functions answer.
-/
import Derived.Test.YtkeigicobcjleabAtoLawP
import Derived.Test.YtkeigicobcjleabAtoPool
import Derived.Test.YtkeigicobcjleabAtoEq
namespace Go.Proofs.Ytkeigicobcjleab.TM
set_option linter.unusedVariables false
theorem OkA.two {a : At} (h : OkA a) (h1 : a.1 ≠ 1) : a.1 = 2 ∨ a.1 = 3 := by
  rcases h with ⟨b, n, rfl⟩ | ⟨op, s, t, n, rfl, _⟩
  · unfold knB; cases b <;> cases n <;> simp
  · exact absurd rfl h1
theorem OkA.isQ {a : At} (h : OkA a) (h1 : a.1 = 1) : TM.isQ a.2.1 = true := by
  rcases h with ⟨b, n, rfl⟩ | ⟨op, s, t, n, rfl, h2, _⟩
  · exact absurd h1 (kn_1 b n)
  · exact h2
theorem MadeA.chk {l m : List N} {a : At} {o : Int} {p q : Nat} {n : Bool} (h : MadeA l m a o p q n) (ha : OkA a) (h1 : a.1 = 1) : chkA m o p q = 0 := by
  obtain ⟨e, _, hp, hq, _, _⟩ := h.op h1
  unfold chkA
  rw [if_pos (row_iff.2 h.row), e, if_pos (ha.isQ h1), if_neg (by omega)]
end Go.Proofs.Ytkeigicobcjleab.TM
namespace Go.Proofs.Ytkeigicobcjleab.TB
open Go.ChangeShapes Go.WideShapes Go.ChangeAt Go.RowKit
open Go.Sort hiding Below
set_option linter.unusedVariables false
set_option maxRecDepth 100000
/-- two ints in a block -/
structure At2 (W : World) (b : Nat) (x y : Int) : Prop where
  lt : b < W.heap.size
  c0 : W.cell? ⟨b, 0, none⟩ = some (.int .i64 x)
  c1 : W.cell? ⟨b, 1, none⟩ = some (.int .i64 y)
theorem At2.new (w : World) (x y : Int) (T : TypeId) : At2 (w.alloc (.cells #[.int .i64 x, .int .i64 y] T)) w.heap.size x y :=
  ⟨by simp, cell_lit w [.int .i64 x, .int .i64 y] T 0, cell_lit w [.int .i64 x, .int .i64 y] T 1⟩
theorem At2.below {W W' : World} {b : Nat} {x y : Int} (h : At2 W b x y) (hb : Below W.heap.size W W') : At2 W' b x y :=
  ⟨Nat.lt_of_lt_of_le h.lt hb.size, (hb.cell (p := ⟨b, 0, none⟩) h.lt).trans h.c0, (hb.cell (p := ⟨b, 1, none⟩) h.lt).trans h.c1⟩
theorem AAt.fr {W W' : World} {b : Nat} {o p q : Int} {n : Bool} {F : Nat → Prop} (h : AAt W b o p q n) (hg : Fr W W' F) (hne : ¬ F b) : AAt W' b o p q n := h.of_block (hg.block b h.lt hne)
theorem results_atom4 {fn : Func} {t p u v : Tmp} (h : fn.results = #[.cell p 31, .tmp t, .tmp u, .tmp v]) (tmps : Array Value) (w : World) {b : Nat} {o x y : Int} {n : Bool} (hp : tmps[p]?.getD undef = .pointer (some ⟨b, 0, none⟩)) (hA : AAt w b o x y n) :
    (results fn tmps).run Try.prog w = .ok (.tuple #[.agg #[.int .i64 o, .int .i64 x, .int .i64 y, .bool n], tmps[t]?.getD undef, tmps[u]?.getD undef, tmps[v]?.getD undef]) w := by
  obtain ⟨a0, a1, a2, a3, a4⟩ := hA.cells
  simp [results, h, hp, go_sem, a0, a1, a2, a3]
theorem bdrewA {B : Nat} {W W' : World} (h : Below B W W') : Below B W W'.drew := h.trans (Below.refl _ _).drew
theorem aput_below {B : Nat} {w W : World} (h : Below B w W) {b : Nat} (hb : B ≤ b) (o p q : Int) (n : Bool) : Below B w (aput W b o p q n) := ((((h.setCell hb _).setCell hb _).setCell hb _).setCell hb _)
theorem lies_no_atom {W : World} {s : Option Addr} {L : List TM.N} {b : Nat} {o p q : Int} {n : Bool} (h : LiesN W s L) (h0 : 0 < L.length) (hA : AAt W b o p q n) : ∀ g, blk s = some g → g ≠ b := by
  obtain ⟨g, off, rfl, hly⟩ := h.ly h0
  intro g' e
  injection e with e
  subst e
  rintro rfl
  obtain ⟨_, _, _, q3⟩ := hly.2 0 h0
  unfold AAt at hA
  have e3 : W.cell? ⟨g, off + 0 * 4 + 3, none⟩ = (#[Value.int .i64 o, .int .i64 p, .int .i64 q, .bool n])[off + 0 * 4 + 3]? := by simp [World.cell?, hA]
  have q3' : W.cell? ⟨g, off + 0 * 4 + 3, none⟩ = some (.int .u32 L[0].2.2.2) := by simpa using q3
  rw [e3] at q3'
  cases off with
  | zero => simp at q3'
  | succ off => rw [Array.getElem?_eq_none (by simp)] at q3'; cases q3'
/-- what the helper tells -/
def MdAt (W : World) (L : List TM.N) (a : TM.At) (B : Nat) (e : Ending) (w' : World) : Prop :=
  ∃ L' o p q n s' c', e = .returned (.tuple #[.agg #[.int .i64 o, .int .i64 ((p : Nat) : Int), .int .i64 ((q : Nat) : Int), .bool n], .int .i64 ((a.1 : Nat) : Int), .slice s' L'.length c', .bool true]) ∧ TM.MadeA L L' a o p q n ∧ L'.length ≤ L.length + B ∧ L'.length ≤ c' ∧ LiesN w' s' L' ∧ Below W.heap.size W w' ∧ (∀ g, blk s' = some g → W.heap.size ≤ g)

set_option maxHeartbeats 6400000 in
set_option maxRecDepth 1000000 in
theorem lmade {Pl : PoolIs} (hPl : PoolOk Pl) (hKm : KmOk Pl) (hPa : PfOk Pl) (A : Option Addr) (m c : Nat) (L : List TM.N) (hlm : L.length = m) (hm : m ≤ 1000) (h1 : TM.Row L) (h2 : TM.Once L) (h3 : ∀ x ∈ L, TM.okN x) (op : Int) (ho : TM.isQ op = true) (x y : Nat) (hx : x < m) (hy : y < m) (nt : Bool) (w : World) (hl : LiesN w A L) :
    Calls Try.prog 4 #[.slice A m c, .int .i64 op, .agg #[.int .i64 x, .int .i64 y], .bool nt] w fun e w' => MdAt w L (TM.mkA op (TM.tr L x) (TM.tr L y) nt) (m + 8) e w' := by
  have hOk := TM.mkA_fix ho (TM.tr_okT h1 h3 x (by omega)) (TM.tr_okT h1 h3 y (by omega)) nt
  have HB0 := hid (al2 w (.cells #[.int .i64 x, .int .i64 y] 34) (.cells #[.int .i64 0, .int .i64 0, .int .i64 0, .bool false] 31))
  have hs1 : (w.alloc (.cells #[.int .i64 x, .int .i64 y] 34)).heap.size = w.heap.size + 1 := by simp
  have HX0 := hid ((At2.new w x y 34).below (al _ (.cells #[.int .i64 0, .int .i64 0, .int .i64 0, .bool false] 31)))
  have HZ0 := AAt.new (w.alloc (.cells #[.int .i64 x, .int .i64 y] 34)) 0 0 0 false
  rw [hs1] at HZ0
  replace HZ0 := hid HZ0
  obtain ⟨w0, hw0⟩ : ∃ w0, (w.alloc (.cells #[.int .i64 x, .int .i64 y] 34)).alloc (.cells #[.int .i64 0, .int .i64 0, .int .i64 0, .bool false] 31) = w0 := ⟨_, rfl⟩
  rw [hw0] at HB0 HX0 HZ0
  have HLp := hid (show ∀ W, LiesN W A L → _ from fun W h => lpool13 hPl A m c L hlm (by omega) h1 h2 h3 W h)
  have HKm := hid (show ∀ W F v, Pl W F v L → _ from fun W F v h => hKm W F v L op x y nt h h1 h2 h3 (by omega) ho (by omega) (by omega))
  obtain ⟨a, ha⟩ : ∃ a, TM.mkA op (TM.tr L x) (TM.tr L y) nt = a := ⟨_, rfl⟩
  rw [ha] at hOk HKm ⊢
  have HOk := hid hOk
  have HH := hid (And.intro hl (And.intro hlm (And.intro h1 (And.intro h2 h3))))
  have HP := hid hPl
  clear hPl hKm hlm h1 h2 h3 ho hl ha hOk hs1
  go_enter Try.func4, Try.ntmps4
  go_wp2_with fail
  try rw [hw0]
  clear hw0
  refine (HLp.out _ (HH.out.1.below HB0.out)).mono ?_
  rintro e1 w1 ⟨v, F, rfl, hpl, hb, hF⟩
  have HQ := hid (show Pl w1 F v L ∧ (∀ b, F b → w0.heap.size ≤ b) ∧ Below w.heap.size w w1 from ⟨hpl, hF, (stp HB0 hb).out⟩)
  have HX1 := hid (HX0.out.below hb)
  have HZ1 := hid (HZ0.out.below hb)
  have hz0 := HZ0.out.lt
  have HL1 := hid ((HH.out.1.below HB0.out).below hb)
  have hw01 := hb.size
  clear hpl hb hF HLp HX0 HZ0
  obtain ⟨_, c0, c1⟩ := HX1.out
  go_wp2_with fail
  refine (HKm.out _ F v HQ.out.1).mono ?_
  rintro e1 w2 ⟨F2, L2, o, p, q, n, rfl, hM, hL2, hpl, hfr, hF2⟩
  have hw12 := hfr.size
  have hb2 : Below w0.heap.size w1 w2 := hfr.below (Below.refl _ _) HQ.out.2.1 hw01
  have hAl := al w2 (.cells #[.int .i64 o, .int .i64 (p : Int), .int .i64 (q : Int), .bool n] 31)
  have HQ2 := hid (show Pl (w2.alloc (.cells #[.int .i64 o, .int .i64 (p : Int), .int .i64 (q : Int), .bool n] 31)) F2 v L2 from HP.out.below hpl hAl)
  have HT2 := hid (AAt.new w2 o (p : Int) (q : Int) n)
  have hnF : ¬ F (w.heap.size + 1) := fun e => by have := HQ.out.2.1 _ e; omega
  have HZ2 := hid ((HZ1.out.fr hfr hnF).below hAl)
  have HB2 := hid (show Below w.heap.size w (w2.alloc (.cells #[.int .i64 o, .int .i64 (p : Int), .int .i64 (q : Int), .bool n] 31)) from (hfr.below HQ.out.2.2 (fun b hb => Nat.le_trans HB0.out.size (HQ.out.2.1 b hb)) HQ.out.2.2.size).trans (hAl.mono (hfr.below HQ.out.2.2 (fun b hb => Nat.le_trans HB0.out.size (HQ.out.2.1 b hb)) HQ.out.2.2.size).size))
  have HM := hid (And.intro hM hL2)
  have HL2 := hid (show LiesN (w2.alloc (.cells #[.int .i64 o, .int .i64 (p : Int), .int .i64 (q : Int), .bool n] 31)) A L from (HH.out.1.below HB2.out))
  clear hM hL2 hpl hfr hF2 hb2 hAl HL1 HX1 HZ1 c0 c1 HKm
  go_wp2_with fail
  obtain ⟨w3, hw3⟩ : ∃ w3, w2.alloc (.cells #[.int .i64 o, .int .i64 (p : Int), .int .i64 (q : Int), .bool n] 31) = w3 := ⟨_, rfl⟩
  rw [hw3] at HQ2 HT2 HZ2 HB2 HL2 ⊢
  clear hw3
  obtain ⟨tb, htb⟩ : ∃ tb, w2.heap.size = tb := ⟨_, rfl⟩
  rw [htb] at HT2 ⊢
  have htz : tb ≠ w.heap.size + 1 := by omega
  clear htb
  refine (hPa _ F2 v L2 HQ2.out).mono ?_
  rintro e1 w4 ⟨s4, c4, rfl, hc4, hl4, hb, hfr4⟩
  have HF4 := hid (show ∀ g, blk s4 = some g → w.heap.size ≤ g from fun g hg => Nat.le_trans HB2.out.size (hfr4 g hg))
  have HR := hid (show LiesN w4 s4 L2 ∧ LiesN w4 A L ∧ AAt w4 tb o (p : Int) (q : Int) n ∧ AAt w4 (w.heap.size + 1) 0 0 0 false ∧ Below w.heap.size w w4 from ⟨hl4, HL2.out.below hb, HT2.out.below hb, HZ2.out.below hb, (stp HB2 hb).out⟩)
  have HLs := hid (show ∀ b, blk s4 = some b → b = w.heap.size + 1 → False from fun b hb e => lies_no_atom HR.out.1 (by have := HM.out.1.len; have := HH.out.2.1; omega) HR.out.2.2.2.1 b hb e)
  clear hfr4 hl4 hb HL2 HT2 HZ2 HB2 HQ2 HQ
  obtain ⟨k, hk⟩ : ∃ k, L2.length = k := ⟨_, rfl⟩
  rw [hk] at hc4 ⊢
  have hmk : m ≤ k := by rw [← hk, ← HH.out.2.1]; exact HM.out.1.len
  have hk2 : k ≤ 3000 := by have h1 := HM.out.2; have h2 := HH.out.2.1; omega
  have HK := hid hk
  have d6 : decide ((k : Int) < (m : Int)) = false := decide_eq_false (by omega)
  have i4 : (m : Int) ≤ (c4 : Int) := by omega
  go_wp2_with fail
  refine (rrow_any s4 k c4 L2 hk (by omega) HM.out.1.ok _ HR.out.1 true (TM.row_iff.2 HM.out.1.row)).mono ?_
  rintro e1 w5 ⟨rfl, hb⟩
  have HR5 := hid (show LiesN w5 s4 L2 ∧ LiesN w5 A L ∧ AAt w5 tb o (p : Int) (q : Int) n ∧ AAt w5 (w.heap.size + 1) 0 0 0 false ∧ Below w.heap.size w w5 from ⟨HR.out.1.below hb, HR.out.2.1.below hb, HR.out.2.2.1.below hb, HR.out.2.2.2.1.below hb, (stp (hid HR.out.2.2.2.2) hb).out⟩)
  clear hb HR
  have hl6 : LiesN w5 s4 L := by
    obtain ⟨E, hE⟩ := HM.out.1.pre
    have := HR5.out.1
    rw [hE] at this
    exact lies_pre this
  have HSm := hid (rsame_any s4 A L L m m c4 c w5 HH.out.2.1 HH.out.2.1 hl6 HR5.out.2.1 (by omega) (by omega) true (by simp))
  clear hl6
  go_wp2_with fail
  refine HSm.out.mono ?_
  rintro e1 w6 ⟨rfl, hb⟩
  have HR6 := hid (show LiesN w6 s4 L2 ∧ AAt w6 tb o (p : Int) (q : Int) n ∧ AAt w6 (w.heap.size + 1) 0 0 0 false ∧ Below w.heap.size w w6 from ⟨HR5.out.1.below hb, HR5.out.2.2.1.below hb, HR5.out.2.2.2.1.below hb, (stp (hid HR5.out.2.2.2.2) hb).out⟩)
  clear hb HR5 HSm
  obtain ⟨a0, a1, a2, a3, af⟩ := HR6.out.2.1.cells
  obtain ⟨z0, z1, z2, z3, zf⟩ := HR6.out.2.2.1.cells
  by_cases e : a.1 = 1
  · have hchk := HM.out.1.chk HOk.out e
    have HCk := hid (fun W (h : LiesN W s4 L2) => rcheckA s4 k c4 L2 HK.out (by omega) HM.out.1.ok o p q n W h)
    rw [hchk] at HCk
    rw [e]
    have HMd := hid (And.intro e hchk)
    clear e hchk
    go_wp2
    go_region_with (go_at_call 13; refine (HCk.out _ (HR6.out.1.below (Below.refl _ _).drew)).mono ?_; rintro e1 w7 ⟨rfl, hb⟩; have HR7 := hid (show AAt w7 tb o (p : Int) (q : Int) n ∧ AAt w7 (w.heap.size + 1) 0 0 0 false ∧ LiesN w7 s4 L2 ∧ Below w.heap.size w w7 from ⟨(HR6.out.2.1.below (Below.refl _ _).drew).below hb, (HR6.out.2.2.1.below (Below.refl _ _).drew).below hb, (HR6.out.1.below (Below.refl _ _).drew).below hb, HR6.out.2.2.2.trans (((Below.refl _ _).drew.trans hb).mono HR6.out.2.2.2.size)⟩); clear hb; obtain ⟨b0, b1, b2, b3, bf⟩ := HR7.out.1.cells; obtain ⟨y0, y1, y2, y3, yf⟩ := HR7.out.2.1.cells)
    all_goals
      go_wp2
      have hput := HR7.out.2.1.put o (p : Int) (q : Int) n
      have hpb := aput_below HR7.out.2.2.2 (show w.heap.size ≤ w.heap.size + 1 by omega) o (p : Int) (q : Int) n
      have hfr := HR7.out.2.2.1.fr (aput_fr w7 (w.heap.size + 1) o (p : Int) (q : Int) n) (fun b hb e => HLs.out b hb e)
      refine bodyPost_ret (results_atom4 rfl _ _ rfl hput) rfl ?_
      refine ⟨L2, o, p, q, n, s4, c4, ?_, HM.out.1, by have := HM.out.2; have := HH.out.2.1; omega, by rw [HK.out]; exact hc4, hfr, hpb, HF4.out⟩
      rw [HK.out, HMd.out.1]
      rfl
  · obtain ⟨rfl, hp0, hq0, rfl⟩ := HM.out.1.kn e
    subst hp0 hq0
    have hz := eqlA 0 0 0 false 0 0 0 false
    have hg := guardA
    have d7 : (((a.1 : Nat) : Int) != 1) = true := bne_iff_ne.2 (by omega)
    have d8 : (((a.1 : Nat) : Int) == 2) = true ∨ ((((a.1 : Nat) : Int) == 2) = false ∧ (((a.1 : Nat) : Int) == 3) = true) := by
      rcases HOk.out.two e with h | h
      · left; rw [h]; rfl
      · right; rw [h]; exact ⟨rfl, rfl⟩
    rcases d8 with d8 | ⟨d8, d9⟩
    · go_wp2
      go_region
      go_wp2
      have hput := HR6.out.2.2.1.put 0 0 0 false
      have hpb := aput_below HR6.out.2.2.2 (show w.heap.size ≤ w.heap.size + 1 by omega) 0 0 0 false
      have hfr := HR6.out.1.fr (aput_fr w6 (w.heap.size + 1) 0 0 0 false) (fun b hb e => HLs.out b hb e)
      refine bodyPost_ret (results_atom4 rfl _ _ rfl hput) rfl ?_
      refine ⟨L2, 0, 0, 0, false, s4, c4, ?_, HM.out.1, by have := HM.out.2; have := HH.out.2.1; omega, by rw [HK.out]; exact hc4, hfr, bdrewA hpb, HF4.out⟩
      rw [HK.out]
      rfl
    · go_wp2
      go_region
      go_wp2
      have hput := HR6.out.2.2.1.put 0 0 0 false
      have hpb := aput_below HR6.out.2.2.2 (show w.heap.size ≤ w.heap.size + 1 by omega) 0 0 0 false
      have hfr := HR6.out.1.fr (aput_fr w6 (w.heap.size + 1) 0 0 0 false) (fun b hb e => HLs.out b hb e)
      refine bodyPost_ret (results_atom4 rfl _ _ rfl hput) rfl ?_
      refine ⟨L2, 0, 0, 0, false, s4, c4, ?_, HM.out.1, by have := HM.out.2; have := HH.out.2.1; omega, by rw [HK.out]; exact hc4, hfr, bdrewA hpb, HF4.out⟩
      rw [HK.out]
      rfl
end Go.Proofs.Ytkeigicobcjleab.TB
