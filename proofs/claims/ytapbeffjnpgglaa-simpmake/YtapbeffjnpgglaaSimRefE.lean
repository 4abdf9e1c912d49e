/-
  The reference's Make of layer 12, whole, as a walk over the Go text.
-/
import Derived.Test.YtapbeffjnpgglaaSimRefD
namespace Go.Proofs.Ytapbeffjnpgglaa.TB
open Go.ChangeShapes Go.WideShapes Go.ChangeAt Go.RowKit
open Go.Sort hiding Below
set_option linter.unusedVariables false
set_option maxRecDepth 100000

theorem put_neg {L : List TM.N} {a : Nat} (hr : TM.Row L) (ho : TM.Once L) (hk : ∀ x ∈ L, TM.okN x) (hn : L.length < 65536) (ha : a < L.length) {m : List TM.N} {p : Nat} (h : TM.putN L (384, (a : Int), 0, 0) = (m, p)) :
    TM.Made L m (.neg (TM.tr L a)) p ∧ m.length ≤ L.length + 1 := by
  have hm : TM.may (384, (a : Int), 0, 0) L.length = true := by
    rw [TM.may_neg (x := (384, (a : Int), 0, 0)) rfl]
    simp; omega
  have hM := TM.Made.put hr ho hk hn (x := (384, (a : Int), 0, 0)) ⟨by dsimp only; omega, by dsimp only; omega, by dsimp only; omega, by dsimp only; omega⟩ hm h
  rw [TM.trN_neg (x := (384, (a : Int), 0, 0)) rfl] at hM
  simp only [Int.toNat_natCast] at hM
  have hlen := (TM.putN_len L (384, (a : Int), 0, 0)).2
  rw [h] at hlen
  exact ⟨hM, hlen⟩
set_option maxHeartbeats 3200000 in
set_option maxRecDepth 100000 in
theorem rmake_neg (base n c a : Nat) (bI : Int) (t : TM.Tr) (s : Option Addr) (L : List TM.N) (hn : n < 65536) (h1 : TM.Row L) (h2 : TM.Once L) (h3 : ∀ x ∈ L, TM.okN x) (ha : a < n) (w : World) (hO : OwnN w base s n c L) (hbase : base ≤ w.heap.size) :
    Calls Try.prog 15 #[.slice s n c, .int .i64 128, .int .i64 a, .int .i64 bI] w fun e w' => RowAt base w s L (TM.mkT 128 (TM.tr L a) t) 1 e w' := by
  have hl := hO.len
  have hnm := TM.nm_row h1 (a := a) (by omega)
  have hng := TM.ng_row h1 (a := a) (by omega)
  have mi := TM.may_ok (h1.2 a (by omega))
  obtain ⟨b1, o1, rfl, hly⟩ := hO.lies.ly (by omega)
  obtain ⟨p0, p1, p2, p3⟩ := hly.2 a (by omega)
  have e := TM.nat0_eq (l := L) (i := a) (by omega)
  have wk := (TM.nat0_ok h3 a).2.2.2
  rw [← e] at p0 p1 p2 p3
  generalize TM.nat0 L a = x at *
  obtain ⟨xo, xa, xb, xk⟩ := x
  simp only at p0 p1 p2 p3 hnm hng mi wk
  have i1 : (a : Int) < (n : Int) := by omega
  have hX := NAt.new w xo xa xb xk
  obtain ⟨x0, x1, x2, x3, x4⟩ := hX.cells
  simp only at x0 x1 x2 x3
  have HB0 := hid (al w (.cells #[.int .i64 xo, .int .i64 xa, .int .i64 xb, .int .u32 xk] 58))
  have HO := hid (And.intro hO hbase)
  rw [TM.mkT_neg, hnm, hng]
  by_cases g1 : xo = 1
  · subst g1
    have HS := hid (fun W => rsum 128 xk 0 wk (by unfold TM.W32; omega) W)
    have HN := hid (fun W (h : OwnN W base (some ⟨b1, o1, none⟩) n c L) (hb : base ≤ W.heap.size) => rnumber base n c (some ⟨b1, o1, none⟩) L (TM.told 128 xk 0) (TM.told_w32 _ _ _) (by omega) h1 h2 h3 W h hb)
    clear hO hbase h1 h2 h3 hX hly hl e x4 mi hnm hng wk
    go_enter Try.func15, Try.ntmps15
    go_wp2_with fail
    refine (HS.out _).mono ?_
    rintro e w3 ⟨rfl, hb⟩
    have HB := hid (HB0.out.trans (hb.mono HB0.out.size))
    clear hb HS x0 x1 x2 x3 p0 p1 p2 p3
    go_wp2_with fail
    refine (HN.out _ (HO.out.1.below HB.out) (Nat.le_trans HO.out.2 HB.out.size)).mono ?_
    rintro e w4 ⟨s', n', c', L', p, rfl, f1⟩
    have HG := hid f1
    clear f1 HN
    go_wp2
    go_ret2
    exact RowAt.of_below HB.out ⟨s', n', c', L', p, rfl, HG.out⟩
  · by_cases g2 : xo = 384
    · subst g2
      obtain ⟨A, rfl⟩ := Int.eq_ofNat_of_zero_le (show 0 ≤ xa by have := TM.isA_12 (op := 384) (by decide); omega)
      have hA : A < L.length := by have := TM.isA_12 (op := 384) (by decide); omega
      have HR := hid (fun W' (h : Below w.heap.size w W') => RowAt.here hO h h1 h2 h3 hA 1)
      rw [if_neg (by decide), if_pos rfl]
      simp only [Int.toNat_natCast]
      clear hO hbase h1 h2 h3 hX hly hl e x4 mi hnm hng wk g1 hA
      go_enter Try.func15, Try.ntmps15
      go_wp2
      go_quiet (fail)
      go_wp2
      go_ret2
      exact HR.out _ (bdrew HB0.out _)
    · have q1 : (xo == 1) = false := beq_eq_false_iff_ne.2 g1
      have q2 : (xo == 384) = false := beq_eq_false_iff_ne.2 g2
      obtain ⟨m, p, hp⟩ : ∃ m p, TM.putN L (384, (a : Int), 0, 0) = (m, p) := ⟨_, _, rfl⟩
      obtain ⟨hM, hML⟩ := put_neg h1 h2 h3 (by omega) (by omega) hp
      have HP := hid (fun W (h : OwnN W base (some ⟨b1, o1, none⟩) n c L) (hb : base ≤ W.heap.size) => rput_keep base n c (some ⟨b1, o1, none⟩) L 384 a 0 0 (by omega) W h hb m p hp)
      have HM := hid (And.intro hM hML)
      rw [if_neg g1, if_neg g2]
      clear hO hbase h1 h2 h3 hX hly hl e x4 mi hnm hng wk g1 g2 hM hML hp
      go_enter Try.func15, Try.ntmps15
      go_wp2_with fail
      refine (HP.out _ (HO.out.1.below HB0.out) (Nat.le_trans HO.out.2 HB0.out.size)).mono ?_
      rintro e w3 ⟨s', n', c', rfl, f1⟩
      have HG := hid f1
      clear f1 HP x0 x1 x2 x3 p0 p1 p2 p3
      go_wp2
      go_ret2
      exact RowAt.of_below HB0.out ⟨s', n', c', m, p, rfl, HG.out.1, HG.out.2.1, HG.out.2.2.1, HG.out.2.2.2, HM.out.1, HM.out.2⟩
/-- a number on the left of what is none -/
theorem RightBelow.at {op : Int} {a : Nat} (h : RightBelow op (a + 1)) : ∀ (base n c : Nat) (s : Option Addr) (L : List TM.N) (k : Int), TM.W32 k → n + a + 2 < 65536 → TM.Row L → TM.Once L → (∀ x ∈ L, TM.okN x) → a < n → (TM.nat0 L a).1 ≠ 1 → ∀ w, OwnN w base s n c L → base ≤ w.heap.size →
    Calls Try.prog 39 #[.slice s n c, .int .i64 op, .int .i64 a, .int .u32 k] w fun e w' => RowAt base w s L (TM.rgtT op (TM.tr L a) k) (TM.clT op (TM.tr L a) + 2) e w' := h a (by omega)
set_option maxHeartbeats 6400000 in
set_option maxRecDepth 100000 in
theorem rmake_two (op : Int) (hop : TM.isOp op = true) (h128 : op ≠ 128) (base n c a b : Nat) (s : Option Addr) (L : List TM.N) (hn : n + n + 2 < 65536) (h1 : TM.Row L) (h2 : TM.Once L) (h3 : ∀ x ∈ L, TM.okN x) (ha : a < n) (hb : b < n) (w : World) (hO : OwnN w base s n c L) (hbase : base ≤ w.heap.size) :
    Calls Try.prog 15 #[.slice s n c, .int .i64 op, .int .i64 a, .int .i64 b] w fun e w' => RowAt base w s L (TM.mkT op (TM.tr L a) (TM.tr L b)) (TM.clT op (TM.tr L a) + TM.clT op (TM.tr L b) + 2) e w' := by
  have hl := hO.len
  have hna := TM.nm_row h1 (a := a) (by omega)
  have hnb := TM.nm_row h1 (a := b) (by omega)
  have wka := (TM.nat0_ok h3 a).2.2.2
  have wkb := (TM.nat0_ok h3 b).2.2.2
  by_cases g1 : (TM.nat0 L a).1 = 1
  · rw [if_pos g1] at hna
    by_cases g2 : (TM.nat0 L b).1 = 1
    · rw [if_pos g2] at hnb
      rw [TM.mkT_nn h128 hna hnb]
      exact (rmake_nn op h128 base n c a b s L _ _ (by omega) h1 h2 h3 ha hb (TM.nat0 L a).2.1 (TM.nat0 L a).2.2.1 (TM.nat0 L b).2.1 (TM.nat0 L b).2.2.1 (by rw [← g1]) (by rw [← g2]) w hO hbase).mono fun _ _ h => h.more (by omega)
    · rw [if_neg g2] at hnb
      rw [TM.mkT_n0 h128 hna hnb]
      -- what is known of both nodes, and where they lie
      have hR := fun W (h : OwnN W base s n c L) (hbs : base ≤ W.heap.size) => rmake_xn op h128 base n c b a (TM.clT op (TM.tr L b) + 2) s L (TM.nat0 L a).2.2.2 (TM.rgtT op (TM.tr L b) (TM.nat0 L a).2.2.2) (by omega) hb ha (TM.nat0 L b).1 (TM.nat0 L b).2.1 (TM.nat0 L b).2.2.1 (TM.nat0 L b).2.2.2 (TM.nat0 L a).2.1 (TM.nat0 L a).2.2.1 g2 rfl (by rw [← g1]) W h hbs
        (fun W' h' hb' => (rright_any op hop h128 (b + 1)).at base n c s L _ wka (by omega) h1 h2 h3 hb g2 W' h' hb')
      have hne : a ≠ b := fun e => by rw [e] at g1; exact g2 g1
      have HPut := hid (fun (o : Int) (eo : o = 256 + op) (W : World) (q1 : OwnN W base s n c L) (gb : base ≤ W.heap.size) =>
        (show Calls Try.prog 32 #[.slice s n c, .agg #[.int .i64 o, .int .i64 (a : Int), .int .i64 (b : Int), .int .u32 0]] W fun e w' => RowAt base W s L (TM.op2 op (TM.tr L a) (TM.tr L b)) 1 e w' by
          obtain ⟨m, p, hp⟩ : ∃ m p, TM.putN L (o, (a : Int), (b : Int), 0) = (m, p) := ⟨_, _, rfl⟩
          obtain ⟨hM, hML⟩ := put_op2 hop h128 h1 h2 h3 (by omega) (by omega) (by omega) rfl rfl o eo hp
          exact (rput_keep base n c s L o a b 0 (by omega) W q1 gb m p hp).mono fun _ _ ⟨s', n', c', k1, k2, k3, k4, k5⟩ => ⟨s', n', c', m, p, k1, k2, k3, k4, k5, hM, hML⟩))
      obtain ⟨b1, o1, rfl, hly⟩ := hO.lies.ly (by omega)
      obtain ⟨p0, p1, p2, p3⟩ := hly.2 a (by omega)
      obtain ⟨r0, r1, r2, r3⟩ := hly.2 b (by omega)
      rw [← TM.nat0_eq (by omega)] at p0 p1 p2 p3 r0 r1 r2 r3
      generalize hxx : TM.nat0 L a = x at *
      generalize hyy : TM.nat0 L b = y at *
      obtain ⟨xo, xa, xb, xk⟩ := x
      obtain ⟨yo, ya, yb, yk⟩ := y
      simp only at p0 p1 p2 p3 r0 r1 r2 r3 g1 g2 hR
      subst g1
      have i1 : (a : Int) < (n : Int) := by omega
      have i2 : (b : Int) < (n : Int) := by omega
      have q0 : (op == 128) = false := beq_eq_false_iff_ne.2 h128
      have q1 : (yo == 1) = false := beq_eq_false_iff_ne.2 g2
      have q2 : ((a : Int) == (b : Int)) = false := beq_eq_false_iff_ne.2 (by omega)
      obtain ⟨hX, hY⟩ := two_boxes w (1, xa, xb, xk) (yo, ya, yb, yk)
      have HT := hid (fun W => rturns op W)
      have HR := hid hR
      have HO := hid (And.intro hO hbase)
      have hl0 := (al w (.cells #[.int .i64 1, .int .i64 xa, .int .i64 xb, .int .u32 xk] 58))
      have HBB := stp (hid hl0) (al _ (.cells #[.int .i64 yo, .int .i64 ya, .int .i64 yb, .int .u32 yk] 58))
      have r0' := (hl0.cell (p := ⟨b1, o1 + b * 4, none⟩) hly.1).trans r0
      have r1' := (hl0.cell (p := ⟨b1, o1 + b * 4 + 1, none⟩) hly.1).trans r1
      have r2' := (hl0.cell (p := ⟨b1, o1 + b * 4 + 2, none⟩) hly.1).trans r2
      have r3' := (hl0.cell (p := ⟨b1, o1 + b * 4 + 3, none⟩) hly.1).trans r3
      obtain ⟨x0, x1, x2, x3, x4⟩ := hX.cells
      obtain ⟨y0, y1, y2, y3, y4⟩ := hY.cells
      simp only at x0 x1 x2 x3 y0 y1 y2 y3
      cases ht : TM.trn op with
      | true =>
        rw [if_pos rfl]
        clear hO hbase h1 h2 h3 hxx hyy hly hl hl0 hX hY r0 r1 r2 r3 x4 y4 hR g2 hna hnb wka wkb HPut hop h128 hne
        go_enter Try.func15, Try.ntmps15
        go_wp2_with fail
        refine (HT.out _).mono ?_
        rintro e w2 ⟨rfl, rfl⟩
        rw [ht]
        go_wp2_with fail
        refine (HR.out _ (HO.out.1.below HBB.out) (Nat.le_trans HO.out.2 HBB.out.size)).mono ?_
        rintro e w3 ⟨s', n', c', L', p, rfl, f1⟩
        have HG := hid f1
        clear f1 HR p0 p1 p2 p3 r0' r1' r2' r3' x0 x1 x2 x3 y0 y1 y2 y3
        go_wp2
        go_ret2
        exact (RowAt.of_below HBB.out ⟨s', n', c', L', p, rfl, HG.out⟩).more (by omega)
      | false =>
        rw [if_neg (by simp)]
        have hops := TM.isOp_iff.1 hop
        clear hO hbase h1 h2 h3 hxx hyy hly hl hl0 hX hY r0 r1 r2 r3 x4 y4 hR g2 hna hnb wka wkb HR hne q0 hop
        rcases hops with rfl | rfl | rfl | rfl | rfl | rfl | rfl | rfl | rfl | rfl
        all_goals first
          | (exfalso; revert ht; decide)
          | (exfalso; revert h128; decide)
          | skip
        all_goals
          clear h128
          go_enter Try.func15, Try.ntmps15
          go_wp2_with fail
          refine (HT.out _).mono ?_
          rintro e w2 ⟨rfl, rfl⟩
          rw [ht]
          go_wp2_with fail
          refine (HPut.out _ (by first | rfl | decide | omega) _ (HO.out.1.below HBB.out) (Nat.le_trans HO.out.2 HBB.out.size)).mono ?_
          rintro e w3 ⟨s', n', c', L', p, rfl, f1⟩
          have HG := hid f1
          clear f1 HPut p0 p1 p2 p3 r0' r1' r2' r3' x0 x1 x2 x3 y0 y1 y2 y3
          go_wp2
          go_ret2
          exact (RowAt.of_below HBB.out ⟨s', n', c', L', p, rfl, HG.out⟩).more (by omega)
  · rw [if_neg g1] at hna
    by_cases g2 : (TM.nat0 L b).1 = 1
    · rw [if_pos g2] at hnb
      rw [TM.mkT_0n h128 hna hnb]
      exact (rmake_xn op h128 base n c a b (TM.clT op (TM.tr L a) + 2) s L (TM.nat0 L b).2.2.2 (TM.rgtT op (TM.tr L a) (TM.nat0 L b).2.2.2) (by omega) ha hb (TM.nat0 L a).1 (TM.nat0 L a).2.1 (TM.nat0 L a).2.2.1 (TM.nat0 L a).2.2.2 (TM.nat0 L b).2.1 (TM.nat0 L b).2.2.1 g1 rfl (by rw [← g2]) w hO hbase
        (fun W' h' hb' => (rright_any op hop h128 (a + 1)).at base n c s L _ wkb (by omega) h1 h2 h3 ha g1 W' h' hb')).mono fun _ _ h => h.more (by omega)
    · rw [if_neg g2] at hnb
      rw [TM.mkT_00 h128 hna hnb]
      have HPut := hid (fun (o : Int) (eo : o = 256 + op) (W : World) (q1 : OwnN W base s n c L) (gb : base ≤ W.heap.size) =>
        (show Calls Try.prog 32 #[.slice s n c, .agg #[.int .i64 o, .int .i64 (a : Int), .int .i64 (b : Int), .int .u32 0]] W fun e w' => RowAt base W s L (TM.op2 op (TM.tr L a) (TM.tr L b)) 1 e w' by
          obtain ⟨m, p, hp⟩ : ∃ m p, TM.putN L (o, (a : Int), (b : Int), 0) = (m, p) := ⟨_, _, rfl⟩
          obtain ⟨hM, hML⟩ := put_op2 hop h128 h1 h2 h3 (by omega) (by omega) (by omega) rfl rfl o eo hp
          exact (rput_keep base n c s L o a b 0 (by omega) W q1 gb m p hp).mono fun _ _ ⟨s', n', c', k1, k2, k3, k4, k5⟩ => ⟨s', n', c', m, p, k1, k2, k3, k4, k5, hM, hML⟩))
      have HN := hid (fun W (h : OwnN W base s n c L) (hb : base ≤ W.heap.size) => rnumber base n c s L 0 (by unfold TM.W32; omega) (by omega) h1 h2 h3 W h hb)
      have HRA := hid (fun W' (h : Below w.heap.size w W') => RowAt.here hO h h1 h2 h3 (show a < L.length by omega) (TM.clT op (TM.tr L a) + TM.clT op (TM.tr L b) + 2))
      have heq : TM.eqT (TM.tr L a) (TM.tr L b) = decide (a = b) := by
        by_cases e : a = b
        · rw [decide_eq_true e]; exact TM.eqT_iff.2 (by rw [e])
        · rw [decide_eq_false e]; exact TM.eqT_no.2 (fun h => e (TM.tr_inj h1 h3 h2 a b (by omega) (by omega) h))
      rw [heq]
      obtain ⟨b1, o1, rfl, hly⟩ := hO.lies.ly (by omega)
      obtain ⟨p0, p1, p2, p3⟩ := hly.2 a (by omega)
      obtain ⟨r0, r1, r2, r3⟩ := hly.2 b (by omega)
      rw [← TM.nat0_eq (by omega)] at p0 p1 p2 p3 r0 r1 r2 r3
      generalize hxx : TM.nat0 L a = x at *
      generalize hyy : TM.nat0 L b = y at *
      obtain ⟨xo, xa, xb, xk⟩ := x
      obtain ⟨yo, ya, yb, yk⟩ := y
      simp only at p0 p1 p2 p3 r0 r1 r2 r3 g1 g2
      have i1 : (a : Int) < (n : Int) := by omega
      have i2 : (b : Int) < (n : Int) := by omega
      have q1 : (yo == 1) = false := beq_eq_false_iff_ne.2 g2
      have q3 : (xo == 1) = false := beq_eq_false_iff_ne.2 g1
      obtain ⟨hX, hY⟩ := two_boxes w (xo, xa, xb, xk) (yo, ya, yb, yk)
      have HO := hid (And.intro hO hbase)
      have hl0 := (al w (.cells #[.int .i64 xo, .int .i64 xa, .int .i64 xb, .int .u32 xk] 58))
      have HBB := stp (hid hl0) (al _ (.cells #[.int .i64 yo, .int .i64 ya, .int .i64 yb, .int .u32 yk] 58))
      have r0' := (hl0.cell (p := ⟨b1, o1 + b * 4, none⟩) hly.1).trans r0
      have r1' := (hl0.cell (p := ⟨b1, o1 + b * 4 + 1, none⟩) hly.1).trans r1
      have r2' := (hl0.cell (p := ⟨b1, o1 + b * 4 + 2, none⟩) hly.1).trans r2
      have r3' := (hl0.cell (p := ⟨b1, o1 + b * 4 + 3, none⟩) hly.1).trans r3
      obtain ⟨x0, x1, x2, x3, x4⟩ := hX.cells
      obtain ⟨y0, y1, y2, y3, y4⟩ := hY.cells
      simp only at x0 x1 x2 x3 y0 y1 y2 y3
      have hops := TM.isOp_iff.1 hop
      have hab : (((a : Int) == (b : Int)) = false ∧ decide (a = b) = false) ∨ (((a : Int) == (b : Int)) = true ∧ decide (a = b) = true) := by
        by_cases e : a = b
        · exact .inr ⟨by simp [e], by simp [e]⟩
        · exact .inl ⟨beq_eq_false_iff_ne.2 (by omega), by simp [e]⟩
      clear hO hbase h1 h2 h3 hxx hyy hly hl hl0 hX hY r0 r1 r2 r3 x4 y4 g1 g2 hna hnb wka wkb hop heq
      rcases hab with ⟨q2, hd⟩ | ⟨q2, hd⟩
      all_goals rw [hd]
      all_goals rcases hops with rfl | rfl | rfl | rfl | rfl | rfl | rfl | rfl | rfl | rfl
      all_goals first
        | (exfalso; revert h128; decide)
        | skip
      all_goals
        clear h128 hd
        go_enter Try.func15, Try.ntmps15
      all_goals first
        | (go_wp2_with fail
           refine (HPut.out _ (by first | rfl | decide | omega) _ (HO.out.1.below HBB.out) (Nat.le_trans HO.out.2 HBB.out.size)).mono ?_
           rintro e w3 ⟨s', n', c', L', p, rfl, f1⟩
           have HG := hid f1
           clear f1 HPut HN HRA p0 p1 p2 p3 r0' r1' r2' r3' x0 x1 x2 x3 y0 y1 y2 y3
           go_wp2
           go_ret2
           exact (RowAt.of_below HBB.out ⟨s', n', c', L', p, rfl, HG.out⟩).more (by omega))
        | (go_wp2_with fail
           refine (HN.out _ (HO.out.1.below HBB.out) (Nat.le_trans HO.out.2 HBB.out.size)).mono ?_
           rintro e w3 ⟨s', n', c', L', p, rfl, f1⟩
           have HG := hid f1
           clear f1 HPut HN HRA p0 p1 p2 p3 r0' r1' r2' r3' x0 x1 x2 x3 y0 y1 y2 y3
           go_wp2
           go_ret2
           exact (RowAt.of_below HBB.out ⟨s', n', c', L', p, rfl, HG.out⟩).more (by omega))
        | (go_wp2
           go_ret2
           exact HRA.out _ HBB.out)
theorem rmake_any (op : Int) (hop : TM.isOp op = true) (base n c a b : Nat) (s : Option Addr) (L : List TM.N) (hn : n + n + 2 < 65536) (h1 : TM.Row L) (h2 : TM.Once L) (h3 : ∀ x ∈ L, TM.okN x) (ha : a < n) (hb : op ≠ 128 → b < n) (w : World) (hO : OwnN w base s n c L) (hbase : base ≤ w.heap.size) :
    Calls Try.prog 15 #[.slice s n c, .int .i64 op, .int .i64 a, .int .i64 b] w fun e w' => RowAt base w s L (TM.mkT op (TM.tr L a) (TM.tr L b)) (TM.clT op (TM.tr L a) + TM.clT op (TM.tr L b) + 2) e w' := by
  by_cases e : op = 128
  · subst e
    exact (rmake_neg base n c a b _ s L (by omega) h1 h2 h3 ha w hO hbase).mono fun _ _ h => h.more (by omega)
  · exact rmake_two op hop e base n c a b s L hn h1 h2 h3 ha (hb e) w hO hbase
end Go.Proofs.Ytapbeffjnpgglaa.TB
