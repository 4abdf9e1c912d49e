/-
  The reference's Make and right of layer 12, as walks over the Go text: first, numbers on the right.
-/
import Derived.Test.YtapbeffjnpgglaaSimRefA
namespace Go.Proofs.Ytapbeffjnpgglaa.TB
open Go.ChangeShapes Go.WideShapes Go.ChangeAt Go.RowKit
open Go.Sort hiding Below
set_option linter.unusedVariables false
set_option maxRecDepth 100000

/-- two nodes in blocks of their own -/
theorem two_boxes (w : World) (x y : TM.N) : NAt ((w.alloc (.cells #[.int .i64 x.1, .int .i64 x.2.1, .int .i64 x.2.2.1, .int .u32 x.2.2.2] 58)).alloc (.cells #[.int .i64 y.1, .int .i64 y.2.1, .int .i64 y.2.2.1, .int .u32 y.2.2.2] 58)) w.heap.size x ∧
    NAt ((w.alloc (.cells #[.int .i64 x.1, .int .i64 x.2.1, .int .i64 x.2.2.1, .int .u32 x.2.2.2] 58)).alloc (.cells #[.int .i64 y.1, .int .i64 y.2.1, .int .i64 y.2.2.1, .int .u32 y.2.2.2] 58)) (w.heap.size + 1) y := by
  constructor
  · exact (NAt.new w x.1 x.2.1 x.2.2.1 x.2.2.2).alloc _
  · have h := NAt.new (w.alloc (.cells #[.int .i64 x.1, .int .i64 x.2.1, .int .i64 x.2.2.1, .int .u32 x.2.2.2] 58)) y.1 y.2.1 y.2.2.1 y.2.2.2
    have e : (w.alloc (.cells #[.int .i64 x.1, .int .i64 x.2.1, .int .i64 x.2.2.1, .int .u32 x.2.2.2] 58)).heap.size = w.heap.size + 1 := by simp
    rw [e] at h
    exact h

set_option maxHeartbeats 3200000 in
set_option maxRecDepth 100000 in
theorem rmake_nn (op : Int) (h128 : op ≠ 128) (base n c a b : Nat) (s : Option Addr) (L : List TM.N) (i j : Int) (hn : n < 65536) (h1 : TM.Row L) (h2 : TM.Once L) (h3 : ∀ x ∈ L, TM.okN x) (ha : a < n) (hb : b < n) (xa xb ya yb : Int) (hx : TM.nat0 L a = (1, xa, xb, i)) (hy : TM.nat0 L b = (1, ya, yb, j)) (w : World) (hO : OwnN w base s n c L) (hbase : base ≤ w.heap.size) :
    Calls Try.prog 15 #[.slice s n c, .int .i64 op, .int .i64 a, .int .i64 b] w fun e w' => RowAt base w s L (.num (TM.told op i j)) 1 e w' := by
  have hl := hO.len
  have wi : TM.W32 i := by have := (TM.nat0_ok h3 a).2.2.2; rw [hx] at this; exact this
  have wj : TM.W32 j := by have := (TM.nat0_ok h3 b).2.2.2; rw [hy] at this; exact this
  obtain ⟨b1, o1, rfl, hly⟩ := hO.lies.ly (by omega)
  obtain ⟨p0, p1, p2, p3⟩ := hly.2 a (by omega)
  obtain ⟨r0, r1, r2, r3⟩ := hly.2 b (by omega)
  rw [TM.nat0_eq (by omega)] at hx hy
  rw [hx] at p0 p1 p2 p3
  rw [hy] at r0 r1 r2 r3
  simp only at p0 p1 p2 p3 r0 r1 r2 r3
  have i1 : (a : Int) < (n : Int) := by omega
  have i2 : (b : Int) < (n : Int) := by omega
  have q0 : (op == 128) = false := by rw [beq_eq_false_iff_ne]; exact h128
  obtain ⟨hX, hY⟩ := two_boxes w (1, xa, xb, i) (1, ya, yb, j)
  have HS := hid (fun W => rsum op i j wi wj W)
  have HN := hid (fun W (h : OwnN W base (some ⟨b1, o1, none⟩) n c L) (hb : base ≤ W.heap.size) => rnumber base n c (some ⟨b1, o1, none⟩) L (TM.told op i j) (TM.told_w32 _ _ _) hn h1 h2 h3 W h hb)
  have HO := hid (And.intro hO hbase)
  have hl0 := (al w (.cells #[.int .i64 1, .int .i64 xa, .int .i64 xb, .int .u32 i] 58))
  have r0' := (hl0.cell (p := ⟨b1, o1 + b * 4, none⟩) hly.1).trans r0
  have r1' := (hl0.cell (p := ⟨b1, o1 + b * 4 + 1, none⟩) hly.1).trans r1
  have r2' := (hl0.cell (p := ⟨b1, o1 + b * 4 + 2, none⟩) hly.1).trans r2
  have r3' := (hl0.cell (p := ⟨b1, o1 + b * 4 + 3, none⟩) hly.1).trans r3
  obtain ⟨x0, x1, x2, x3, x4⟩ := hX.cells
  obtain ⟨y0, y1, y2, y3, y4⟩ := hY.cells
  simp only at x0 x1 x2 x3 y0 y1 y2 y3
  clear hO hbase h1 h2 h3 hx hy hly hl hl0 hX hY wi wj r0 r1 r2 r3 x4 y4
  go_enter Try.func15, Try.ntmps15
  go_wp2_with fail
  refine (HS.out _).mono ?_
  rintro e w2 ⟨rfl, hb⟩
  have HB := stp (stp (hid (al w _)) (al _ _)) hb
  clear hb HS p0 p1 p2 p3 r0' r1' r2' r3' x0 x1 x2 x3 y0 y1 y2 y3
  go_wp2_with fail
  refine (HN.out _ (HO.out.1.below HB.out) (Nat.le_trans HO.out.2 HB.out.size)).mono ?_
  rintro e w3 ⟨s', n', c', L', p, rfl, g1⟩
  have HG := hid g1
  clear g1 HN
  go_wp2
  go_ret2
  exact RowAt.of_below HB.out ⟨s', n', c', L', p, rfl, HG.out⟩
set_option maxHeartbeats 3200000 in
set_option maxRecDepth 100000 in
theorem rmake_xn (op : Int) (h128 : op ≠ 128) (base n c a b B : Nat) (s : Option Addr) (L : List TM.N) (j : Int) (t : TM.Tr) (hn : n < 65536) (ha : a < n) (hb : b < n) (xo xa xb xk ya yb : Int) (hxo : xo ≠ 1) (hx : TM.nat0 L a = (xo, xa, xb, xk)) (hy : TM.nat0 L b = (1, ya, yb, j)) (w : World) (hO : OwnN w base s n c L) (hbase : base ≤ w.heap.size)
    (HR : ∀ W, OwnN W base s n c L → base ≤ W.heap.size → Calls Try.prog 39 #[.slice s n c, .int .i64 op, .int .i64 a, .int .u32 j] W fun e w' => RowAt base W s L t B e w') :
    Calls Try.prog 15 #[.slice s n c, .int .i64 op, .int .i64 a, .int .i64 b] w fun e w' => RowAt base w s L t B e w' := by
  have hl := hO.len
  obtain ⟨b1, o1, rfl, hly⟩ := hO.lies.ly (by omega)
  obtain ⟨p0, p1, p2, p3⟩ := hly.2 a (by omega)
  obtain ⟨r0, r1, r2, r3⟩ := hly.2 b (by omega)
  rw [TM.nat0_eq (by omega)] at hx hy
  rw [hx] at p0 p1 p2 p3
  rw [hy] at r0 r1 r2 r3
  simp only at p0 p1 p2 p3 r0 r1 r2 r3
  have i1 : (a : Int) < (n : Int) := by omega
  have i2 : (b : Int) < (n : Int) := by omega
  have q0 : (op == 128) = false := by rw [beq_eq_false_iff_ne]; exact h128
  have q1 : (xo == 1) = false := by rw [beq_eq_false_iff_ne]; exact hxo
  obtain ⟨hX, hY⟩ := two_boxes w (xo, xa, xb, xk) (1, ya, yb, j)
  have HRR := hid HR
  have HO := hid (And.intro hO hbase)
  have hl0 := (al w (.cells #[.int .i64 xo, .int .i64 xa, .int .i64 xb, .int .u32 xk] 58))
  have HBB := stp (hid (al w (.cells #[.int .i64 xo, .int .i64 xa, .int .i64 xb, .int .u32 xk] 58))) (al _ (.cells #[.int .i64 1, .int .i64 ya, .int .i64 yb, .int .u32 j] 58))
  have r0' := (hl0.cell (p := ⟨b1, o1 + b * 4, none⟩) hly.1).trans r0
  have r1' := (hl0.cell (p := ⟨b1, o1 + b * 4 + 1, none⟩) hly.1).trans r1
  have r2' := (hl0.cell (p := ⟨b1, o1 + b * 4 + 2, none⟩) hly.1).trans r2
  have r3' := (hl0.cell (p := ⟨b1, o1 + b * 4 + 3, none⟩) hly.1).trans r3
  obtain ⟨x0, x1, x2, x3, x4⟩ := hX.cells
  obtain ⟨y0, y1, y2, y3, y4⟩ := hY.cells
  simp only at x0 x1 x2 x3 y0 y1 y2 y3
  clear hO hbase hx hy hly hl hl0 hX hY r0 r1 r2 r3 x4 y4 HR
  go_enter Try.func15, Try.ntmps15
  go_wp2_with fail
  refine (HRR.out _ (HO.out.1.below HBB.out) (Nat.le_trans HO.out.2 HBB.out.size)).mono ?_
  rintro e w3 ⟨s', n', c', L', p, rfl, g1⟩
  have HG := hid g1
  clear g1 HRR p0 p1 p2 p3 r0' r1' r2' r3' x0 x1 x2 x3 y0 y1 y2 y3
  go_wp2
  go_ret2
  exact RowAt.of_below HBB.out ⟨s', n', c', L', p, rfl, HG.out⟩
end Go.Proofs.Ytapbeffjnpgglaa.TB
