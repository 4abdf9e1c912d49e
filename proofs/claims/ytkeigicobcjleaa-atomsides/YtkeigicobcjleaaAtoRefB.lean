/-
  The reference's Make of layer 13, as walks over the Go text: what it hands on.
-/
import Derived.Test.YtkeigicobcjleaaAtoRefA
namespace Go.Proofs.Ytkeigicobcjleaa.TB
open Go.ChangeShapes Go.WideShapes Go.ChangeAt Go.RowKit
open Go.Sort hiding Below
set_option linter.unusedVariables false
set_option maxRecDepth 100000

set_option maxHeartbeats 6400000 in
set_option maxRecDepth 100000 in
theorem rmakeA_nn (op : Int) (nt : Bool) (base n c a b : Nat) (s : Option Addr) (L : List TM.N) (hn : n < 65536) (h1 : TM.Row L) (h2 : TM.Once L) (h3 : ∀ x ∈ L, TM.okN x) (ha : a < n) (hb : b < n) (xa xb ya yb i j : Int) (hx : TM.nat0 L a = (1, xa, xb, i)) (hy : TM.nat0 L b = (1, ya, yb, j)) (w : World) (hO : OwnN w base s n c L) (hbase : base ≤ w.heap.size) :
    Calls Try.prog 20 #[.slice s n c, .int .i64 op, .int .i64 a, .int .i64 b, .bool nt] w fun e w' => AtAt base w s L (TM.knB (WM.ask op i j) nt) 0 e w' := by
  have hl := hO.len
  have wi : TM.W32 i := by have := (TM.nat0_ok h3 a).2.2.2; rw [hx] at this; exact this
  have wj : TM.W32 j := by have := (TM.nat0_ok h3 b).2.2.2; rw [hy] at this; exact this
  have HK := hid (fun W (h : Below w.heap.size w W) W' (h' : Below W.heap.size W W') x => AtAt.kn (hO.below h) h' h1 h2 h3 x nt 0)
  have HS := hid (fun W => WB.rask_any op i j wi.1 wi.2 wj.1 wj.2 W)
  obtain ⟨z, hz⟩ : ∃ z, WM.ask op i j = z := ⟨_, rfl⟩
  rw [hz] at HS ⊢
  have HO := hid (And.intro hO hbase)
  obtain ⟨b1, o1, rfl, hly⟩ := hO.lies.ly (by omega)
  rw [TM.nat0_eq (by omega)] at hx hy
  have i1 : (a : Int) < (n : Int) := by omega
  have i2 : (b : Int) < (n : Int) := by omega
  obtain ⟨w1, hw1⟩ : ∃ w1, w.alloc (.cells #[.int .i64 0, .int .i64 0, .int .i64 0, .bool false] 24) = w1 := ⟨_, rfl⟩
  have hl0 := al w (.cells #[.int .i64 0, .int .i64 0, .int .i64 0, .bool false] 24)
  have hA1 := AAt.new w 0 0 0 false
  have hbw := hly.1
  rw [hw1] at hl0 hA1
  have hly1 := hly.below hl0
  obtain ⟨p0, p1, p2, p3⟩ := hly1.2 a (by omega)
  obtain ⟨r0, r1, r2, r3⟩ := hly1.2 b (by omega)
  rw [hx] at p0 p1 p2 p3
  rw [hy] at r0 r1 r2 r3
  simp only at p0 p1 p2 p3 r0 r1 r2 r3
  have hb1 := hly1.1
  clear hO hbase h1 h2 h3 hx hy hly hl hly1 wi wj hz
  go_enter Try.func20, Try.ntmps20
  go_upto_region 1 with fail
  go_cut [13, 14] (fun s13 s14 wx => ∃ gx gy : Nat, s13 = .pointer (some ⟨gx, 0, none⟩) ∧ s14 = .pointer (some ⟨gy, 0, none⟩) ∧ NAt wx gx (1, xa, xb, i) ∧ NAt wx gy (1, ya, yb, j) ∧ AAt wx w.heap.size 0 0 0 false ∧ Below w.heap.size w wx)
  case first =>
    refine wp_region_held_drew (S := fun w' => (∀ b o, b < w1.heap.size → w'.cell? ⟨b, o, none⟩ = w1.cell? ⟨b, o, none⟩) ∧ Below w1.heap.size w1 w') (by kernel_rfl) ?_ (fun hHeld => ?_)
    · ((try dsimp only); (go_split_ands; refine bkeepS ?_; first | exact (Below.refl _ _).drew | assumption | exact Below.trans (by assumption) (Below.mono (by assumption) (Below.size (by assumption)))))
    change wpAnyH _ _ _ _ _ 12 #[false, false, false, false, false, false, false, false, false, false, false, false] _ _
    refine wpAnyH_take (i := 0) (v := ?_) (by simp only [List.getElem?_toArray, List.getElem?_cons_zero]; rfl) (by kernel_rfl) (by kernel_rfl) (by kernel_rfl) (by exact fun _ _ _ h => h) (Or.inl ⟨by rfl, ?_⟩) (by assumption) ?_
    rotate_left
    · (intro w hSw; (try dsimp only at hSw); go_simp; try with_reducible rfl)
    try simp only [Act.put, List.setIfInBounds_toArray, List.set_cons_zero, List.set_cons_succ]
    refine wpAnyH_take (i := 1) (v := ?_) (by simp only [List.getElem?_toArray, List.getElem?_cons_succ, List.getElem?_cons_zero]; rfl) (by kernel_rfl) (by kernel_rfl) (by kernel_rfl) (by exact fun _ _ _ h => h) (Or.inl ⟨by rfl, ?_⟩) (by assumption) ?_
    rotate_left
    · (intro w hSw; (try dsimp only at hSw); go_simp; try with_reducible rfl)
    try simp only [Act.put, List.setIfInBounds_toArray, List.set_cons_zero, List.set_cons_succ]
    refine wpAnyH_take (i := 2) (v := ?_) (by simp only [List.getElem?_toArray, List.getElem?_cons_succ, List.getElem?_cons_zero]; rfl) (by kernel_rfl) (by kernel_rfl) (by kernel_rfl) (by exact fun _ _ _ h => h) (Or.inl ⟨by rfl, ?_⟩) (by assumption) ?_
    rotate_left
    · (intro w hSw; (try dsimp only at hSw); go_simp; try with_reducible rfl)
    try simp only [Act.put, List.setIfInBounds_toArray, List.set_cons_zero, List.set_cons_succ]
    refine wpAnyH_take (i := 3) (v := ?_) (by simp only [List.getElem?_toArray, List.getElem?_cons_succ, List.getElem?_cons_zero]; rfl) (by kernel_rfl) (by kernel_rfl) (by kernel_rfl) (by exact fun _ _ _ h => h) (Or.inl ⟨by rfl, ?_⟩) (by assumption) ?_
    rotate_left
    · (intro w hSw; (try dsimp only at hSw); go_simp; try with_reducible rfl)
    try simp only [Act.put, List.setIfInBounds_toArray, List.set_cons_zero, List.set_cons_succ]
    refine wpAnyH_take (i := 4) (v := ?_) (by simp only [List.getElem?_toArray, List.getElem?_cons_succ, List.getElem?_cons_zero]; rfl) (by kernel_rfl) (by kernel_rfl) (by kernel_rfl) (by exact fun _ _ _ h => h) (Or.inl ⟨by rfl, ?_⟩) (by assumption) ?_
    rotate_left
    · (intro w hSw; (try dsimp only at hSw); go_simp; try with_reducible rfl)
    try simp only [Act.put, List.setIfInBounds_toArray, List.set_cons_zero, List.set_cons_succ]
    refine wpAnyH_take (i := 5) (v := ?_) (by simp only [List.getElem?_toArray, List.getElem?_cons_succ, List.getElem?_cons_zero]; rfl) (by kernel_rfl) (by kernel_rfl) (by kernel_rfl) (by exact fun _ _ _ h => h) (Or.inl ⟨by rfl, ?_⟩) (by assumption) ?_
    rotate_left
    · (intro w hSw; (try dsimp only at hSw); go_simp; try with_reducible rfl)
    try simp only [Act.put, List.setIfInBounds_toArray, List.set_cons_zero, List.set_cons_succ]
    refine wpAnyH_take (i := 6) (v := ?_) (by simp only [List.getElem?_toArray, List.getElem?_cons_succ, List.getElem?_cons_zero]; rfl) (by kernel_rfl) (by kernel_rfl) (by kernel_rfl) (by exact fun _ _ _ h => h) (Or.inl ⟨by rfl, ?_⟩) (by assumption) ?_
    rotate_left
    · (intro w hSw; (try dsimp only at hSw); go_simp; try with_reducible rfl)
    try simp only [Act.put, List.setIfInBounds_toArray, List.set_cons_zero, List.set_cons_succ]
    refine wpAnyH_take (i := 7) (v := ?_) (by simp only [List.getElem?_toArray, List.getElem?_cons_succ, List.getElem?_cons_zero]; rfl) (by kernel_rfl) (by kernel_rfl) (by kernel_rfl) (by exact fun _ _ _ h => h) (Or.inl ⟨by rfl, ?_⟩) (by assumption) ?_
    rotate_left
    · (intro w hSw; (try dsimp only at hSw); go_simp; try with_reducible rfl)
    try simp only [Act.put, List.setIfInBounds_toArray, List.set_cons_zero, List.set_cons_succ]
    refine wpAnyH_ready (rs := [8, 9]) (by kernel_rfl) (by simp) ?_
    refine AllReadyH.cons rfl (fun K hK => ?_) (AllReadyH.cons rfl (fun K hK => ?_) AllReadyH.nil)
    · go_simp
      try dsimp only
      refine hK.out _ _ ?_ (fun hHeld => ?_)
      · ((try dsimp only); (go_split_ands; refine bkeepS ?_; first | exact (Below.refl _ _).drew | exact (al _ _).drew | exact (al2 _ _ _).drew))
      clear hK K
      refine wpAnyH_ready (rs := [9]) (by kernel_rfl) (by simp) ?_
      refine AllReadyH.cons rfl (fun K hK => ?_) AllReadyH.nil
      go_simp
      try dsimp only
      refine hK.out _ _ ?_ (fun hHeld => ?_)
      · ((try dsimp only); (go_split_ands; refine bkeepS ?_; first | exact (Below.refl _ _).drew | exact (al _ _).drew | exact (al2 _ _ _).drew))
      clear hK K
      refine wpAnyH_ready (rs := [10]) (by kernel_rfl) (by simp) ?_
      refine AllReadyH.cons rfl (fun K hK => ?_) AllReadyH.nil
      go_simp
      try dsimp only
      refine hK.out _ _ ?_ (fun hHeld => ?_)
      · ((try dsimp only); (go_split_ands; refine bkeepS ?_; first | exact (Below.refl _ _).drew | exact (al _ _).drew | exact (al2 _ _ _).drew))
      clear hK K
      refine wpAnyH_ready (rs := [11]) (by kernel_rfl) (by simp) ?_
      refine AllReadyH.cons rfl (fun K hK => ?_) AllReadyH.nil
      go_simp
      try dsimp only
      refine hK.out _ _ ?_ (fun hHeld => ?_)
      · ((try dsimp only); (go_split_ands; refine bkeepS ?_; first | exact (Below.refl _ _).drew | exact (al _ _).drew | exact (al2 _ _ _).drew))
      clear hK K
      refine wpAnyH_done (by kernel_rfl) ?_ _
      go_wp2
      go_meet
      exact ⟨_, _, rfl, rfl, (two_boxes w1 (1, xa, xb, i) (1, ya, yb, j)).1, (two_boxes w1 (1, xa, xb, i) (1, ya, yb, j)).2, hA1.below ((al2 _ _ _).drew), (hl0.trans ((al2 _ _ _).mono hl0.size)).drew⟩
    · go_simp
      try dsimp only
      refine hK.out _ _ ?_ (fun hHeld => ?_)
      · ((try dsimp only); (go_split_ands; refine bkeepS ?_; first | exact (Below.refl _ _).drew | exact (al _ _).drew | exact (al2 _ _ _).drew))
      clear hK K
      refine wpAnyH_ready (rs := [8]) (by kernel_rfl) (by simp) ?_
      refine AllReadyH.cons rfl (fun K hK => ?_) AllReadyH.nil
      go_simp
      try dsimp only
      refine hK.out _ _ ?_ (fun hHeld => ?_)
      · ((try dsimp only); (go_split_ands; refine bkeepS ?_; first | exact (Below.refl _ _).drew | exact (al _ _).drew | exact (al2 _ _ _).drew))
      clear hK K
      refine wpAnyH_ready (rs := [10]) (by kernel_rfl) (by simp) ?_
      refine AllReadyH.cons rfl (fun K hK => ?_) AllReadyH.nil
      go_simp
      try dsimp only
      refine hK.out _ _ ?_ (fun hHeld => ?_)
      · ((try dsimp only); (go_split_ands; refine bkeepS ?_; first | exact (Below.refl _ _).drew | exact (al _ _).drew | exact (al2 _ _ _).drew))
      clear hK K
      refine wpAnyH_ready (rs := [11]) (by kernel_rfl) (by simp) ?_
      refine AllReadyH.cons rfl (fun K hK => ?_) AllReadyH.nil
      go_simp
      try dsimp only
      refine hK.out _ _ ?_ (fun hHeld => ?_)
      · ((try dsimp only); (go_split_ands; refine bkeepS ?_; first | exact (Below.refl _ _).drew | exact (al _ _).drew | exact (al2 _ _ _).drew))
      clear hK K
      refine wpAnyH_done (by kernel_rfl) ?_ _
      go_wp2
      go_meet
      exact ⟨_, _, rfl, rfl, (two_boxes w1 (1, ya, yb, j) (1, xa, xb, i)).2, (two_boxes w1 (1, ya, yb, j) (1, xa, xb, i)).1, hA1.below ((al2 _ _ _).drew), (hl0.trans ((al2 _ _ _).mono hl0.size)).drew⟩
  case rest =>
    obtain ⟨gx, gy, rfl, rfl, hX, hY, hAc, hBc⟩ := hcut
    have HA := hid hAc
    have hlt := hAc.lt
    have hns : ∀ g, blk (some ⟨b1, o1, none⟩) = some g → g < w.heap.size := fun g hg => by injection hg with hg; rw [← hg]; exact hbw
    have hne : some w.heap.size ≠ blk (some ⟨b1, o1, none⟩) := fun h => by have := hns _ h.symm; omega
    have HBB := hid hBc
    have hgx := hX.lt
    have hgy := hY.lt
    obtain ⟨x0, x1, x2, x3, x4⟩ := hX.cells
    obtain ⟨y0, y1, y2, y3, y4⟩ := hY.cells
    simp only at x0 x1 x2 x3 y0 y1 y2 y3
    clear hX hY x4 y4 hBc hAc hA1 hl0 hw1 p0 p1 p2 p3 r0 r1 r2 r3 hb1
    go_wp2_with fail
    refine (HS.out _).mono ?_
    rintro e w2 ⟨rfl, hb⟩
    have HB := hid hb
    have HA2 := hid (HA.out.below hb)
    obtain ⟨a0, a1, a2, a3, a4⟩ := HA2.out.cells
    clear hb HS x0 x1 x2 x3 y0 y1 y2 y3
    go_wp2_with fail
    refine (rknown z nt _).mono ?_
    rintro e w3 ⟨rfl, rfl⟩
    go_wp2
    (try simp only [Exit.inBlock, Exit.then])
    refine bodyPost_ret (results_atom3 rfl _ _ rfl (HA2.out.put _ _ _ _)) rfl ?_
    exact AtAt.box HBB.out (Nat.le_refl _) hlt hns (HK.out _ HBB.out _ HB.out _) _ _ _ _

set_option maxHeartbeats 6400000 in
set_option maxRecDepth 100000 in
theorem rmakeA_xn (op : Int) (nt : Bool) (base n c a b : Nat) (s : Option Addr) (L : List TM.N) (hn : n < 65536) (h1 : TM.Row L) (h2 : TM.Once L) (h3 : ∀ x ∈ L, TM.okN x) (ha : a < n) (hb : b < n) (xo xa xb xk ya yb j : Int) (hx : TM.nat0 L a = (xo, xa, xb, xk)) (hy : TM.nat0 L b = (1, ya, yb, j)) (w : World) (hO : OwnN w base s n c L) (hbase : base ≤ w.heap.size) (B : Nat) (t : TM.At) (hxo : xo ≠ 1) (HR : ∀ W, OwnN W base s n c L → base ≤ W.heap.size → Calls Try.prog 42 #[.slice s n c, .int .i64 op, .int .i64 a, .int .u32 j, .bool nt] W fun e w' => AtAt base W s L t B e w') :
    Calls Try.prog 20 #[.slice s n c, .int .i64 op, .int .i64 a, .int .i64 b, .bool nt] w fun e w' => AtAt base w s L t B e w' := by
  have hl := hO.len
  have HRR := hid HR
  have q1 : (xo == 1) = false := by rw [beq_eq_false_iff_ne]; exact hxo
  have HO := hid (And.intro hO hbase)
  obtain ⟨b1, o1, rfl, hly⟩ := hO.lies.ly (by omega)
  rw [TM.nat0_eq (by omega)] at hx hy
  have i1 : (a : Int) < (n : Int) := by omega
  have i2 : (b : Int) < (n : Int) := by omega
  obtain ⟨w1, hw1⟩ : ∃ w1, w.alloc (.cells #[.int .i64 0, .int .i64 0, .int .i64 0, .bool false] 24) = w1 := ⟨_, rfl⟩
  have hl0 := al w (.cells #[.int .i64 0, .int .i64 0, .int .i64 0, .bool false] 24)
  have hA1 := AAt.new w 0 0 0 false
  have hbw := hly.1
  rw [hw1] at hl0 hA1
  have hly1 := hly.below hl0
  obtain ⟨p0, p1, p2, p3⟩ := hly1.2 a (by omega)
  obtain ⟨r0, r1, r2, r3⟩ := hly1.2 b (by omega)
  rw [hx] at p0 p1 p2 p3
  rw [hy] at r0 r1 r2 r3
  simp only at p0 p1 p2 p3 r0 r1 r2 r3
  have hb1 := hly1.1
  clear hO hbase h1 h2 h3 hx hy hly hl hly1 HR hxo
  go_enter Try.func20, Try.ntmps20
  go_upto_region 1 with fail
  go_cut [13, 14] (fun s13 s14 wx => ∃ gx gy : Nat, s13 = .pointer (some ⟨gx, 0, none⟩) ∧ s14 = .pointer (some ⟨gy, 0, none⟩) ∧ NAt wx gx (xo, xa, xb, xk) ∧ NAt wx gy (1, ya, yb, j) ∧ AAt wx w.heap.size 0 0 0 false ∧ Below w.heap.size w wx)
  case first =>
    refine wp_region_held_drew (S := fun w' => (∀ b o, b < w1.heap.size → w'.cell? ⟨b, o, none⟩ = w1.cell? ⟨b, o, none⟩) ∧ Below w1.heap.size w1 w') (by kernel_rfl) ?_ (fun hHeld => ?_)
    · ((try dsimp only); (go_split_ands; refine bkeepS ?_; first | exact (Below.refl _ _).drew | assumption | exact Below.trans (by assumption) (Below.mono (by assumption) (Below.size (by assumption)))))
    change wpAnyH _ _ _ _ _ 12 #[false, false, false, false, false, false, false, false, false, false, false, false] _ _
    refine wpAnyH_take (i := 0) (v := ?_) (by simp only [List.getElem?_toArray, List.getElem?_cons_zero]; rfl) (by kernel_rfl) (by kernel_rfl) (by kernel_rfl) (by exact fun _ _ _ h => h) (Or.inl ⟨by rfl, ?_⟩) (by assumption) ?_
    rotate_left
    · (intro w hSw; (try dsimp only at hSw); go_simp; try with_reducible rfl)
    try simp only [Act.put, List.setIfInBounds_toArray, List.set_cons_zero, List.set_cons_succ]
    refine wpAnyH_take (i := 1) (v := ?_) (by simp only [List.getElem?_toArray, List.getElem?_cons_succ, List.getElem?_cons_zero]; rfl) (by kernel_rfl) (by kernel_rfl) (by kernel_rfl) (by exact fun _ _ _ h => h) (Or.inl ⟨by rfl, ?_⟩) (by assumption) ?_
    rotate_left
    · (intro w hSw; (try dsimp only at hSw); go_simp; try with_reducible rfl)
    try simp only [Act.put, List.setIfInBounds_toArray, List.set_cons_zero, List.set_cons_succ]
    refine wpAnyH_take (i := 2) (v := ?_) (by simp only [List.getElem?_toArray, List.getElem?_cons_succ, List.getElem?_cons_zero]; rfl) (by kernel_rfl) (by kernel_rfl) (by kernel_rfl) (by exact fun _ _ _ h => h) (Or.inl ⟨by rfl, ?_⟩) (by assumption) ?_
    rotate_left
    · (intro w hSw; (try dsimp only at hSw); go_simp; try with_reducible rfl)
    try simp only [Act.put, List.setIfInBounds_toArray, List.set_cons_zero, List.set_cons_succ]
    refine wpAnyH_take (i := 3) (v := ?_) (by simp only [List.getElem?_toArray, List.getElem?_cons_succ, List.getElem?_cons_zero]; rfl) (by kernel_rfl) (by kernel_rfl) (by kernel_rfl) (by exact fun _ _ _ h => h) (Or.inl ⟨by rfl, ?_⟩) (by assumption) ?_
    rotate_left
    · (intro w hSw; (try dsimp only at hSw); go_simp; try with_reducible rfl)
    try simp only [Act.put, List.setIfInBounds_toArray, List.set_cons_zero, List.set_cons_succ]
    refine wpAnyH_take (i := 4) (v := ?_) (by simp only [List.getElem?_toArray, List.getElem?_cons_succ, List.getElem?_cons_zero]; rfl) (by kernel_rfl) (by kernel_rfl) (by kernel_rfl) (by exact fun _ _ _ h => h) (Or.inl ⟨by rfl, ?_⟩) (by assumption) ?_
    rotate_left
    · (intro w hSw; (try dsimp only at hSw); go_simp; try with_reducible rfl)
    try simp only [Act.put, List.setIfInBounds_toArray, List.set_cons_zero, List.set_cons_succ]
    refine wpAnyH_take (i := 5) (v := ?_) (by simp only [List.getElem?_toArray, List.getElem?_cons_succ, List.getElem?_cons_zero]; rfl) (by kernel_rfl) (by kernel_rfl) (by kernel_rfl) (by exact fun _ _ _ h => h) (Or.inl ⟨by rfl, ?_⟩) (by assumption) ?_
    rotate_left
    · (intro w hSw; (try dsimp only at hSw); go_simp; try with_reducible rfl)
    try simp only [Act.put, List.setIfInBounds_toArray, List.set_cons_zero, List.set_cons_succ]
    refine wpAnyH_take (i := 6) (v := ?_) (by simp only [List.getElem?_toArray, List.getElem?_cons_succ, List.getElem?_cons_zero]; rfl) (by kernel_rfl) (by kernel_rfl) (by kernel_rfl) (by exact fun _ _ _ h => h) (Or.inl ⟨by rfl, ?_⟩) (by assumption) ?_
    rotate_left
    · (intro w hSw; (try dsimp only at hSw); go_simp; try with_reducible rfl)
    try simp only [Act.put, List.setIfInBounds_toArray, List.set_cons_zero, List.set_cons_succ]
    refine wpAnyH_take (i := 7) (v := ?_) (by simp only [List.getElem?_toArray, List.getElem?_cons_succ, List.getElem?_cons_zero]; rfl) (by kernel_rfl) (by kernel_rfl) (by kernel_rfl) (by exact fun _ _ _ h => h) (Or.inl ⟨by rfl, ?_⟩) (by assumption) ?_
    rotate_left
    · (intro w hSw; (try dsimp only at hSw); go_simp; try with_reducible rfl)
    try simp only [Act.put, List.setIfInBounds_toArray, List.set_cons_zero, List.set_cons_succ]
    refine wpAnyH_ready (rs := [8, 9]) (by kernel_rfl) (by simp) ?_
    refine AllReadyH.cons rfl (fun K hK => ?_) (AllReadyH.cons rfl (fun K hK => ?_) AllReadyH.nil)
    · go_simp
      try dsimp only
      refine hK.out _ _ ?_ (fun hHeld => ?_)
      · ((try dsimp only); (go_split_ands; refine bkeepS ?_; first | exact (Below.refl _ _).drew | exact (al _ _).drew | exact (al2 _ _ _).drew))
      clear hK K
      refine wpAnyH_ready (rs := [9]) (by kernel_rfl) (by simp) ?_
      refine AllReadyH.cons rfl (fun K hK => ?_) AllReadyH.nil
      go_simp
      try dsimp only
      refine hK.out _ _ ?_ (fun hHeld => ?_)
      · ((try dsimp only); (go_split_ands; refine bkeepS ?_; first | exact (Below.refl _ _).drew | exact (al _ _).drew | exact (al2 _ _ _).drew))
      clear hK K
      refine wpAnyH_ready (rs := [10]) (by kernel_rfl) (by simp) ?_
      refine AllReadyH.cons rfl (fun K hK => ?_) AllReadyH.nil
      go_simp
      try dsimp only
      refine hK.out _ _ ?_ (fun hHeld => ?_)
      · ((try dsimp only); (go_split_ands; refine bkeepS ?_; first | exact (Below.refl _ _).drew | exact (al _ _).drew | exact (al2 _ _ _).drew))
      clear hK K
      refine wpAnyH_ready (rs := [11]) (by kernel_rfl) (by simp) ?_
      refine AllReadyH.cons rfl (fun K hK => ?_) AllReadyH.nil
      go_simp
      try dsimp only
      refine hK.out _ _ ?_ (fun hHeld => ?_)
      · ((try dsimp only); (go_split_ands; refine bkeepS ?_; first | exact (Below.refl _ _).drew | exact (al _ _).drew | exact (al2 _ _ _).drew))
      clear hK K
      refine wpAnyH_done (by kernel_rfl) ?_ _
      go_wp2
      go_meet
      exact ⟨_, _, rfl, rfl, (two_boxes w1 (xo, xa, xb, xk) (1, ya, yb, j)).1, (two_boxes w1 (xo, xa, xb, xk) (1, ya, yb, j)).2, hA1.below ((al2 _ _ _).drew), (hl0.trans ((al2 _ _ _).mono hl0.size)).drew⟩
    · go_simp
      try dsimp only
      refine hK.out _ _ ?_ (fun hHeld => ?_)
      · ((try dsimp only); (go_split_ands; refine bkeepS ?_; first | exact (Below.refl _ _).drew | exact (al _ _).drew | exact (al2 _ _ _).drew))
      clear hK K
      refine wpAnyH_ready (rs := [8]) (by kernel_rfl) (by simp) ?_
      refine AllReadyH.cons rfl (fun K hK => ?_) AllReadyH.nil
      go_simp
      try dsimp only
      refine hK.out _ _ ?_ (fun hHeld => ?_)
      · ((try dsimp only); (go_split_ands; refine bkeepS ?_; first | exact (Below.refl _ _).drew | exact (al _ _).drew | exact (al2 _ _ _).drew))
      clear hK K
      refine wpAnyH_ready (rs := [10]) (by kernel_rfl) (by simp) ?_
      refine AllReadyH.cons rfl (fun K hK => ?_) AllReadyH.nil
      go_simp
      try dsimp only
      refine hK.out _ _ ?_ (fun hHeld => ?_)
      · ((try dsimp only); (go_split_ands; refine bkeepS ?_; first | exact (Below.refl _ _).drew | exact (al _ _).drew | exact (al2 _ _ _).drew))
      clear hK K
      refine wpAnyH_ready (rs := [11]) (by kernel_rfl) (by simp) ?_
      refine AllReadyH.cons rfl (fun K hK => ?_) AllReadyH.nil
      go_simp
      try dsimp only
      refine hK.out _ _ ?_ (fun hHeld => ?_)
      · ((try dsimp only); (go_split_ands; refine bkeepS ?_; first | exact (Below.refl _ _).drew | exact (al _ _).drew | exact (al2 _ _ _).drew))
      clear hK K
      refine wpAnyH_done (by kernel_rfl) ?_ _
      go_wp2
      go_meet
      exact ⟨_, _, rfl, rfl, (two_boxes w1 (1, ya, yb, j) (xo, xa, xb, xk)).2, (two_boxes w1 (1, ya, yb, j) (xo, xa, xb, xk)).1, hA1.below ((al2 _ _ _).drew), (hl0.trans ((al2 _ _ _).mono hl0.size)).drew⟩
  case rest =>
    obtain ⟨gx, gy, rfl, rfl, hX, hY, hAc, hBc⟩ := hcut
    have HA := hid hAc
    have hlt := hAc.lt
    have hns : ∀ g, blk (some ⟨b1, o1, none⟩) = some g → g < w.heap.size := fun g hg => by injection hg with hg; rw [← hg]; exact hbw
    have hne : some w.heap.size ≠ blk (some ⟨b1, o1, none⟩) := fun h => by have := hns _ h.symm; omega
    have HBB := hid hBc
    have hgx := hX.lt
    have hgy := hY.lt
    obtain ⟨x0, x1, x2, x3, x4⟩ := hX.cells
    obtain ⟨y0, y1, y2, y3, y4⟩ := hY.cells
    simp only at x0 x1 x2 x3 y0 y1 y2 y3
    clear hX hY x4 y4 hBc hAc hA1 hl0 hw1 p0 p1 p2 p3 r0 r1 r2 r3 hb1
    go_wp2_with fail
    refine (HRR.out _ (HO.out.1.below HBB.out) (Nat.le_trans HO.out.2 HBB.out.size)).mono ?_
    rintro e w3 ⟨s', n', c', L', o, p, q, k, rfl, g1⟩
    have HG := hid g1
    have HA2 := hid (HA.out.grown g1.2.1 hne)
    obtain ⟨a0, a1, a2, a3, a4⟩ := HA2.out.cells
    clear g1 HRR x0 x1 x2 x3 y0 y1 y2 y3
    go_wp2
    (try simp only [Exit.inBlock, Exit.then])
    refine bodyPost_ret (results_atom3 rfl _ _ rfl (HA2.out.put _ _ _ _)) rfl ?_
    exact AtAt.box HBB.out (Nat.le_refl _) hlt hns (⟨s', n', c', L', o, p, q, k, rfl, HG.out⟩) _ _ _ _

set_option maxHeartbeats 6400000 in
set_option maxRecDepth 100000 in
theorem rmakeA_nx32 (nt : Bool) (base n c a b : Nat) (s : Option Addr) (L : List TM.N) (hn : n < 65536) (h1 : TM.Row L) (h2 : TM.Once L) (h3 : ∀ x ∈ L, TM.okN x) (ha : a < n) (hb : b < n) (xa xb yo ya yb yk i : Int) (hx : TM.nat0 L a = (1, xa, xb, i)) (hy : TM.nat0 L b = (yo, ya, yb, yk)) (w : World) (hO : OwnN w base s n c L) (hbase : base ≤ w.heap.size) (B : Nat) (t : TM.At) (hyo : yo ≠ 1) (HR : ∀ W, OwnN W base s n c L → base ≤ W.heap.size → Calls Try.prog 20 #[.slice s n c, .int .i64 48, .int .i64 b, .int .i64 a, .bool (!nt)] W fun e w' => AtAt base W s L t B e w') :
    Calls Try.prog 20 #[.slice s n c, .int .i64 32, .int .i64 a, .int .i64 b, .bool nt] w fun e w' => AtAt base w s L t B e w' := by
  have hl := hO.len
  have HRR := hid HR
  have q1 : (yo == 1) = false := by rw [beq_eq_false_iff_ne]; exact hyo
  have HO := hid (And.intro hO hbase)
  obtain ⟨b1, o1, rfl, hly⟩ := hO.lies.ly (by omega)
  rw [TM.nat0_eq (by omega)] at hx hy
  have i1 : (a : Int) < (n : Int) := by omega
  have i2 : (b : Int) < (n : Int) := by omega
  obtain ⟨w1, hw1⟩ : ∃ w1, w.alloc (.cells #[.int .i64 0, .int .i64 0, .int .i64 0, .bool false] 24) = w1 := ⟨_, rfl⟩
  have hl0 := al w (.cells #[.int .i64 0, .int .i64 0, .int .i64 0, .bool false] 24)
  have hA1 := AAt.new w 0 0 0 false
  have hbw := hly.1
  rw [hw1] at hl0 hA1
  have hly1 := hly.below hl0
  obtain ⟨p0, p1, p2, p3⟩ := hly1.2 a (by omega)
  obtain ⟨r0, r1, r2, r3⟩ := hly1.2 b (by omega)
  rw [hx] at p0 p1 p2 p3
  rw [hy] at r0 r1 r2 r3
  simp only at p0 p1 p2 p3 r0 r1 r2 r3
  have hb1 := hly1.1
  clear hO hbase h1 h2 h3 hx hy hly hl hly1 HR hyo
  go_enter Try.func20, Try.ntmps20
  go_upto_region 1 with fail
  go_cut [13, 14] (fun s13 s14 wx => ∃ gx gy : Nat, s13 = .pointer (some ⟨gx, 0, none⟩) ∧ s14 = .pointer (some ⟨gy, 0, none⟩) ∧ NAt wx gx (1, xa, xb, i) ∧ NAt wx gy (yo, ya, yb, yk) ∧ AAt wx w.heap.size 0 0 0 false ∧ Below w.heap.size w wx)
  case first =>
    refine wp_region_held_drew (S := fun w' => (∀ b o, b < w1.heap.size → w'.cell? ⟨b, o, none⟩ = w1.cell? ⟨b, o, none⟩) ∧ Below w1.heap.size w1 w') (by kernel_rfl) ?_ (fun hHeld => ?_)
    · ((try dsimp only); (go_split_ands; refine bkeepS ?_; first | exact (Below.refl _ _).drew | assumption | exact Below.trans (by assumption) (Below.mono (by assumption) (Below.size (by assumption)))))
    change wpAnyH _ _ _ _ _ 12 #[false, false, false, false, false, false, false, false, false, false, false, false] _ _
    refine wpAnyH_take (i := 0) (v := ?_) (by simp only [List.getElem?_toArray, List.getElem?_cons_zero]; rfl) (by kernel_rfl) (by kernel_rfl) (by kernel_rfl) (by exact fun _ _ _ h => h) (Or.inl ⟨by rfl, ?_⟩) (by assumption) ?_
    rotate_left
    · (intro w hSw; (try dsimp only at hSw); go_simp; try with_reducible rfl)
    try simp only [Act.put, List.setIfInBounds_toArray, List.set_cons_zero, List.set_cons_succ]
    refine wpAnyH_take (i := 1) (v := ?_) (by simp only [List.getElem?_toArray, List.getElem?_cons_succ, List.getElem?_cons_zero]; rfl) (by kernel_rfl) (by kernel_rfl) (by kernel_rfl) (by exact fun _ _ _ h => h) (Or.inl ⟨by rfl, ?_⟩) (by assumption) ?_
    rotate_left
    · (intro w hSw; (try dsimp only at hSw); go_simp; try with_reducible rfl)
    try simp only [Act.put, List.setIfInBounds_toArray, List.set_cons_zero, List.set_cons_succ]
    refine wpAnyH_take (i := 2) (v := ?_) (by simp only [List.getElem?_toArray, List.getElem?_cons_succ, List.getElem?_cons_zero]; rfl) (by kernel_rfl) (by kernel_rfl) (by kernel_rfl) (by exact fun _ _ _ h => h) (Or.inl ⟨by rfl, ?_⟩) (by assumption) ?_
    rotate_left
    · (intro w hSw; (try dsimp only at hSw); go_simp; try with_reducible rfl)
    try simp only [Act.put, List.setIfInBounds_toArray, List.set_cons_zero, List.set_cons_succ]
    refine wpAnyH_take (i := 3) (v := ?_) (by simp only [List.getElem?_toArray, List.getElem?_cons_succ, List.getElem?_cons_zero]; rfl) (by kernel_rfl) (by kernel_rfl) (by kernel_rfl) (by exact fun _ _ _ h => h) (Or.inl ⟨by rfl, ?_⟩) (by assumption) ?_
    rotate_left
    · (intro w hSw; (try dsimp only at hSw); go_simp; try with_reducible rfl)
    try simp only [Act.put, List.setIfInBounds_toArray, List.set_cons_zero, List.set_cons_succ]
    refine wpAnyH_take (i := 4) (v := ?_) (by simp only [List.getElem?_toArray, List.getElem?_cons_succ, List.getElem?_cons_zero]; rfl) (by kernel_rfl) (by kernel_rfl) (by kernel_rfl) (by exact fun _ _ _ h => h) (Or.inl ⟨by rfl, ?_⟩) (by assumption) ?_
    rotate_left
    · (intro w hSw; (try dsimp only at hSw); go_simp; try with_reducible rfl)
    try simp only [Act.put, List.setIfInBounds_toArray, List.set_cons_zero, List.set_cons_succ]
    refine wpAnyH_take (i := 5) (v := ?_) (by simp only [List.getElem?_toArray, List.getElem?_cons_succ, List.getElem?_cons_zero]; rfl) (by kernel_rfl) (by kernel_rfl) (by kernel_rfl) (by exact fun _ _ _ h => h) (Or.inl ⟨by rfl, ?_⟩) (by assumption) ?_
    rotate_left
    · (intro w hSw; (try dsimp only at hSw); go_simp; try with_reducible rfl)
    try simp only [Act.put, List.setIfInBounds_toArray, List.set_cons_zero, List.set_cons_succ]
    refine wpAnyH_take (i := 6) (v := ?_) (by simp only [List.getElem?_toArray, List.getElem?_cons_succ, List.getElem?_cons_zero]; rfl) (by kernel_rfl) (by kernel_rfl) (by kernel_rfl) (by exact fun _ _ _ h => h) (Or.inl ⟨by rfl, ?_⟩) (by assumption) ?_
    rotate_left
    · (intro w hSw; (try dsimp only at hSw); go_simp; try with_reducible rfl)
    try simp only [Act.put, List.setIfInBounds_toArray, List.set_cons_zero, List.set_cons_succ]
    refine wpAnyH_take (i := 7) (v := ?_) (by simp only [List.getElem?_toArray, List.getElem?_cons_succ, List.getElem?_cons_zero]; rfl) (by kernel_rfl) (by kernel_rfl) (by kernel_rfl) (by exact fun _ _ _ h => h) (Or.inl ⟨by rfl, ?_⟩) (by assumption) ?_
    rotate_left
    · (intro w hSw; (try dsimp only at hSw); go_simp; try with_reducible rfl)
    try simp only [Act.put, List.setIfInBounds_toArray, List.set_cons_zero, List.set_cons_succ]
    refine wpAnyH_ready (rs := [8, 9]) (by kernel_rfl) (by simp) ?_
    refine AllReadyH.cons rfl (fun K hK => ?_) (AllReadyH.cons rfl (fun K hK => ?_) AllReadyH.nil)
    · go_simp
      try dsimp only
      refine hK.out _ _ ?_ (fun hHeld => ?_)
      · ((try dsimp only); (go_split_ands; refine bkeepS ?_; first | exact (Below.refl _ _).drew | exact (al _ _).drew | exact (al2 _ _ _).drew))
      clear hK K
      refine wpAnyH_ready (rs := [9]) (by kernel_rfl) (by simp) ?_
      refine AllReadyH.cons rfl (fun K hK => ?_) AllReadyH.nil
      go_simp
      try dsimp only
      refine hK.out _ _ ?_ (fun hHeld => ?_)
      · ((try dsimp only); (go_split_ands; refine bkeepS ?_; first | exact (Below.refl _ _).drew | exact (al _ _).drew | exact (al2 _ _ _).drew))
      clear hK K
      refine wpAnyH_ready (rs := [10]) (by kernel_rfl) (by simp) ?_
      refine AllReadyH.cons rfl (fun K hK => ?_) AllReadyH.nil
      go_simp
      try dsimp only
      refine hK.out _ _ ?_ (fun hHeld => ?_)
      · ((try dsimp only); (go_split_ands; refine bkeepS ?_; first | exact (Below.refl _ _).drew | exact (al _ _).drew | exact (al2 _ _ _).drew))
      clear hK K
      refine wpAnyH_ready (rs := [11]) (by kernel_rfl) (by simp) ?_
      refine AllReadyH.cons rfl (fun K hK => ?_) AllReadyH.nil
      go_simp
      try dsimp only
      refine hK.out _ _ ?_ (fun hHeld => ?_)
      · ((try dsimp only); (go_split_ands; refine bkeepS ?_; first | exact (Below.refl _ _).drew | exact (al _ _).drew | exact (al2 _ _ _).drew))
      clear hK K
      refine wpAnyH_done (by kernel_rfl) ?_ _
      go_wp2
      go_meet
      exact ⟨_, _, rfl, rfl, (two_boxes w1 (1, xa, xb, i) (yo, ya, yb, yk)).1, (two_boxes w1 (1, xa, xb, i) (yo, ya, yb, yk)).2, hA1.below ((al2 _ _ _).drew), (hl0.trans ((al2 _ _ _).mono hl0.size)).drew⟩
    · go_simp
      try dsimp only
      refine hK.out _ _ ?_ (fun hHeld => ?_)
      · ((try dsimp only); (go_split_ands; refine bkeepS ?_; first | exact (Below.refl _ _).drew | exact (al _ _).drew | exact (al2 _ _ _).drew))
      clear hK K
      refine wpAnyH_ready (rs := [8]) (by kernel_rfl) (by simp) ?_
      refine AllReadyH.cons rfl (fun K hK => ?_) AllReadyH.nil
      go_simp
      try dsimp only
      refine hK.out _ _ ?_ (fun hHeld => ?_)
      · ((try dsimp only); (go_split_ands; refine bkeepS ?_; first | exact (Below.refl _ _).drew | exact (al _ _).drew | exact (al2 _ _ _).drew))
      clear hK K
      refine wpAnyH_ready (rs := [10]) (by kernel_rfl) (by simp) ?_
      refine AllReadyH.cons rfl (fun K hK => ?_) AllReadyH.nil
      go_simp
      try dsimp only
      refine hK.out _ _ ?_ (fun hHeld => ?_)
      · ((try dsimp only); (go_split_ands; refine bkeepS ?_; first | exact (Below.refl _ _).drew | exact (al _ _).drew | exact (al2 _ _ _).drew))
      clear hK K
      refine wpAnyH_ready (rs := [11]) (by kernel_rfl) (by simp) ?_
      refine AllReadyH.cons rfl (fun K hK => ?_) AllReadyH.nil
      go_simp
      try dsimp only
      refine hK.out _ _ ?_ (fun hHeld => ?_)
      · ((try dsimp only); (go_split_ands; refine bkeepS ?_; first | exact (Below.refl _ _).drew | exact (al _ _).drew | exact (al2 _ _ _).drew))
      clear hK K
      refine wpAnyH_done (by kernel_rfl) ?_ _
      go_wp2
      go_meet
      exact ⟨_, _, rfl, rfl, (two_boxes w1 (yo, ya, yb, yk) (1, xa, xb, i)).2, (two_boxes w1 (yo, ya, yb, yk) (1, xa, xb, i)).1, hA1.below ((al2 _ _ _).drew), (hl0.trans ((al2 _ _ _).mono hl0.size)).drew⟩
  case rest =>
    obtain ⟨gx, gy, rfl, rfl, hX, hY, hAc, hBc⟩ := hcut
    have HA := hid hAc
    have hlt := hAc.lt
    have hns : ∀ g, blk (some ⟨b1, o1, none⟩) = some g → g < w.heap.size := fun g hg => by injection hg with hg; rw [← hg]; exact hbw
    have hne : some w.heap.size ≠ blk (some ⟨b1, o1, none⟩) := fun h => by have := hns _ h.symm; omega
    have HBB := hid hBc
    have hgx := hX.lt
    have hgy := hY.lt
    obtain ⟨x0, x1, x2, x3, x4⟩ := hX.cells
    obtain ⟨y0, y1, y2, y3, y4⟩ := hY.cells
    simp only at x0 x1 x2 x3 y0 y1 y2 y3
    clear hX hY x4 y4 hBc hAc hA1 hl0 hw1 p0 p1 p2 p3 r0 r1 r2 r3 hb1
    go_wp2_with fail
    refine (HRR.out _ (HO.out.1.below HBB.out) (Nat.le_trans HO.out.2 HBB.out.size)).mono ?_
    rintro e w3 ⟨s', n', c', L', o, p, q, k, rfl, g1⟩
    have HG := hid g1
    have HA2 := hid (HA.out.grown g1.2.1 hne)
    obtain ⟨a0, a1, a2, a3, a4⟩ := HA2.out.cells
    clear g1 HRR x0 x1 x2 x3 y0 y1 y2 y3
    go_wp2
    (try simp only [Exit.inBlock, Exit.then])
    refine bodyPost_ret (results_atom3 rfl _ _ rfl (HA2.out.put _ _ _ _)) rfl ?_
    exact AtAt.box HBB.out (Nat.le_refl _) hlt hns (⟨s', n', c', L', o, p, q, k, rfl, HG.out⟩) _ _ _ _

set_option maxHeartbeats 6400000 in
set_option maxRecDepth 100000 in
theorem rmakeA_nx48 (nt : Bool) (base n c a b : Nat) (s : Option Addr) (L : List TM.N) (hn : n < 65536) (h1 : TM.Row L) (h2 : TM.Once L) (h3 : ∀ x ∈ L, TM.okN x) (ha : a < n) (hb : b < n) (xa xb yo ya yb yk i : Int) (hx : TM.nat0 L a = (1, xa, xb, i)) (hy : TM.nat0 L b = (yo, ya, yb, yk)) (w : World) (hO : OwnN w base s n c L) (hbase : base ≤ w.heap.size) (B : Nat) (t : TM.At) (hyo : yo ≠ 1) (HR : ∀ W, OwnN W base s n c L → base ≤ W.heap.size → Calls Try.prog 20 #[.slice s n c, .int .i64 32, .int .i64 b, .int .i64 a, .bool (!nt)] W fun e w' => AtAt base W s L t B e w') :
    Calls Try.prog 20 #[.slice s n c, .int .i64 48, .int .i64 a, .int .i64 b, .bool nt] w fun e w' => AtAt base w s L t B e w' := by
  have hl := hO.len
  have HRR := hid HR
  have q1 : (yo == 1) = false := by rw [beq_eq_false_iff_ne]; exact hyo
  have HO := hid (And.intro hO hbase)
  obtain ⟨b1, o1, rfl, hly⟩ := hO.lies.ly (by omega)
  rw [TM.nat0_eq (by omega)] at hx hy
  have i1 : (a : Int) < (n : Int) := by omega
  have i2 : (b : Int) < (n : Int) := by omega
  obtain ⟨w1, hw1⟩ : ∃ w1, w.alloc (.cells #[.int .i64 0, .int .i64 0, .int .i64 0, .bool false] 24) = w1 := ⟨_, rfl⟩
  have hl0 := al w (.cells #[.int .i64 0, .int .i64 0, .int .i64 0, .bool false] 24)
  have hA1 := AAt.new w 0 0 0 false
  have hbw := hly.1
  rw [hw1] at hl0 hA1
  have hly1 := hly.below hl0
  obtain ⟨p0, p1, p2, p3⟩ := hly1.2 a (by omega)
  obtain ⟨r0, r1, r2, r3⟩ := hly1.2 b (by omega)
  rw [hx] at p0 p1 p2 p3
  rw [hy] at r0 r1 r2 r3
  simp only at p0 p1 p2 p3 r0 r1 r2 r3
  have hb1 := hly1.1
  clear hO hbase h1 h2 h3 hx hy hly hl hly1 HR hyo
  go_enter Try.func20, Try.ntmps20
  go_upto_region 1 with fail
  go_cut [13, 14] (fun s13 s14 wx => ∃ gx gy : Nat, s13 = .pointer (some ⟨gx, 0, none⟩) ∧ s14 = .pointer (some ⟨gy, 0, none⟩) ∧ NAt wx gx (1, xa, xb, i) ∧ NAt wx gy (yo, ya, yb, yk) ∧ AAt wx w.heap.size 0 0 0 false ∧ Below w.heap.size w wx)
  case first =>
    refine wp_region_held_drew (S := fun w' => (∀ b o, b < w1.heap.size → w'.cell? ⟨b, o, none⟩ = w1.cell? ⟨b, o, none⟩) ∧ Below w1.heap.size w1 w') (by kernel_rfl) ?_ (fun hHeld => ?_)
    · ((try dsimp only); (go_split_ands; refine bkeepS ?_; first | exact (Below.refl _ _).drew | assumption | exact Below.trans (by assumption) (Below.mono (by assumption) (Below.size (by assumption)))))
    change wpAnyH _ _ _ _ _ 12 #[false, false, false, false, false, false, false, false, false, false, false, false] _ _
    refine wpAnyH_take (i := 0) (v := ?_) (by simp only [List.getElem?_toArray, List.getElem?_cons_zero]; rfl) (by kernel_rfl) (by kernel_rfl) (by kernel_rfl) (by exact fun _ _ _ h => h) (Or.inl ⟨by rfl, ?_⟩) (by assumption) ?_
    rotate_left
    · (intro w hSw; (try dsimp only at hSw); go_simp; try with_reducible rfl)
    try simp only [Act.put, List.setIfInBounds_toArray, List.set_cons_zero, List.set_cons_succ]
    refine wpAnyH_take (i := 1) (v := ?_) (by simp only [List.getElem?_toArray, List.getElem?_cons_succ, List.getElem?_cons_zero]; rfl) (by kernel_rfl) (by kernel_rfl) (by kernel_rfl) (by exact fun _ _ _ h => h) (Or.inl ⟨by rfl, ?_⟩) (by assumption) ?_
    rotate_left
    · (intro w hSw; (try dsimp only at hSw); go_simp; try with_reducible rfl)
    try simp only [Act.put, List.setIfInBounds_toArray, List.set_cons_zero, List.set_cons_succ]
    refine wpAnyH_take (i := 2) (v := ?_) (by simp only [List.getElem?_toArray, List.getElem?_cons_succ, List.getElem?_cons_zero]; rfl) (by kernel_rfl) (by kernel_rfl) (by kernel_rfl) (by exact fun _ _ _ h => h) (Or.inl ⟨by rfl, ?_⟩) (by assumption) ?_
    rotate_left
    · (intro w hSw; (try dsimp only at hSw); go_simp; try with_reducible rfl)
    try simp only [Act.put, List.setIfInBounds_toArray, List.set_cons_zero, List.set_cons_succ]
    refine wpAnyH_take (i := 3) (v := ?_) (by simp only [List.getElem?_toArray, List.getElem?_cons_succ, List.getElem?_cons_zero]; rfl) (by kernel_rfl) (by kernel_rfl) (by kernel_rfl) (by exact fun _ _ _ h => h) (Or.inl ⟨by rfl, ?_⟩) (by assumption) ?_
    rotate_left
    · (intro w hSw; (try dsimp only at hSw); go_simp; try with_reducible rfl)
    try simp only [Act.put, List.setIfInBounds_toArray, List.set_cons_zero, List.set_cons_succ]
    refine wpAnyH_take (i := 4) (v := ?_) (by simp only [List.getElem?_toArray, List.getElem?_cons_succ, List.getElem?_cons_zero]; rfl) (by kernel_rfl) (by kernel_rfl) (by kernel_rfl) (by exact fun _ _ _ h => h) (Or.inl ⟨by rfl, ?_⟩) (by assumption) ?_
    rotate_left
    · (intro w hSw; (try dsimp only at hSw); go_simp; try with_reducible rfl)
    try simp only [Act.put, List.setIfInBounds_toArray, List.set_cons_zero, List.set_cons_succ]
    refine wpAnyH_take (i := 5) (v := ?_) (by simp only [List.getElem?_toArray, List.getElem?_cons_succ, List.getElem?_cons_zero]; rfl) (by kernel_rfl) (by kernel_rfl) (by kernel_rfl) (by exact fun _ _ _ h => h) (Or.inl ⟨by rfl, ?_⟩) (by assumption) ?_
    rotate_left
    · (intro w hSw; (try dsimp only at hSw); go_simp; try with_reducible rfl)
    try simp only [Act.put, List.setIfInBounds_toArray, List.set_cons_zero, List.set_cons_succ]
    refine wpAnyH_take (i := 6) (v := ?_) (by simp only [List.getElem?_toArray, List.getElem?_cons_succ, List.getElem?_cons_zero]; rfl) (by kernel_rfl) (by kernel_rfl) (by kernel_rfl) (by exact fun _ _ _ h => h) (Or.inl ⟨by rfl, ?_⟩) (by assumption) ?_
    rotate_left
    · (intro w hSw; (try dsimp only at hSw); go_simp; try with_reducible rfl)
    try simp only [Act.put, List.setIfInBounds_toArray, List.set_cons_zero, List.set_cons_succ]
    refine wpAnyH_take (i := 7) (v := ?_) (by simp only [List.getElem?_toArray, List.getElem?_cons_succ, List.getElem?_cons_zero]; rfl) (by kernel_rfl) (by kernel_rfl) (by kernel_rfl) (by exact fun _ _ _ h => h) (Or.inl ⟨by rfl, ?_⟩) (by assumption) ?_
    rotate_left
    · (intro w hSw; (try dsimp only at hSw); go_simp; try with_reducible rfl)
    try simp only [Act.put, List.setIfInBounds_toArray, List.set_cons_zero, List.set_cons_succ]
    refine wpAnyH_ready (rs := [8, 9]) (by kernel_rfl) (by simp) ?_
    refine AllReadyH.cons rfl (fun K hK => ?_) (AllReadyH.cons rfl (fun K hK => ?_) AllReadyH.nil)
    · go_simp
      try dsimp only
      refine hK.out _ _ ?_ (fun hHeld => ?_)
      · ((try dsimp only); (go_split_ands; refine bkeepS ?_; first | exact (Below.refl _ _).drew | exact (al _ _).drew | exact (al2 _ _ _).drew))
      clear hK K
      refine wpAnyH_ready (rs := [9]) (by kernel_rfl) (by simp) ?_
      refine AllReadyH.cons rfl (fun K hK => ?_) AllReadyH.nil
      go_simp
      try dsimp only
      refine hK.out _ _ ?_ (fun hHeld => ?_)
      · ((try dsimp only); (go_split_ands; refine bkeepS ?_; first | exact (Below.refl _ _).drew | exact (al _ _).drew | exact (al2 _ _ _).drew))
      clear hK K
      refine wpAnyH_ready (rs := [10]) (by kernel_rfl) (by simp) ?_
      refine AllReadyH.cons rfl (fun K hK => ?_) AllReadyH.nil
      go_simp
      try dsimp only
      refine hK.out _ _ ?_ (fun hHeld => ?_)
      · ((try dsimp only); (go_split_ands; refine bkeepS ?_; first | exact (Below.refl _ _).drew | exact (al _ _).drew | exact (al2 _ _ _).drew))
      clear hK K
      refine wpAnyH_ready (rs := [11]) (by kernel_rfl) (by simp) ?_
      refine AllReadyH.cons rfl (fun K hK => ?_) AllReadyH.nil
      go_simp
      try dsimp only
      refine hK.out _ _ ?_ (fun hHeld => ?_)
      · ((try dsimp only); (go_split_ands; refine bkeepS ?_; first | exact (Below.refl _ _).drew | exact (al _ _).drew | exact (al2 _ _ _).drew))
      clear hK K
      refine wpAnyH_done (by kernel_rfl) ?_ _
      go_wp2
      go_meet
      exact ⟨_, _, rfl, rfl, (two_boxes w1 (1, xa, xb, i) (yo, ya, yb, yk)).1, (two_boxes w1 (1, xa, xb, i) (yo, ya, yb, yk)).2, hA1.below ((al2 _ _ _).drew), (hl0.trans ((al2 _ _ _).mono hl0.size)).drew⟩
    · go_simp
      try dsimp only
      refine hK.out _ _ ?_ (fun hHeld => ?_)
      · ((try dsimp only); (go_split_ands; refine bkeepS ?_; first | exact (Below.refl _ _).drew | exact (al _ _).drew | exact (al2 _ _ _).drew))
      clear hK K
      refine wpAnyH_ready (rs := [8]) (by kernel_rfl) (by simp) ?_
      refine AllReadyH.cons rfl (fun K hK => ?_) AllReadyH.nil
      go_simp
      try dsimp only
      refine hK.out _ _ ?_ (fun hHeld => ?_)
      · ((try dsimp only); (go_split_ands; refine bkeepS ?_; first | exact (Below.refl _ _).drew | exact (al _ _).drew | exact (al2 _ _ _).drew))
      clear hK K
      refine wpAnyH_ready (rs := [10]) (by kernel_rfl) (by simp) ?_
      refine AllReadyH.cons rfl (fun K hK => ?_) AllReadyH.nil
      go_simp
      try dsimp only
      refine hK.out _ _ ?_ (fun hHeld => ?_)
      · ((try dsimp only); (go_split_ands; refine bkeepS ?_; first | exact (Below.refl _ _).drew | exact (al _ _).drew | exact (al2 _ _ _).drew))
      clear hK K
      refine wpAnyH_ready (rs := [11]) (by kernel_rfl) (by simp) ?_
      refine AllReadyH.cons rfl (fun K hK => ?_) AllReadyH.nil
      go_simp
      try dsimp only
      refine hK.out _ _ ?_ (fun hHeld => ?_)
      · ((try dsimp only); (go_split_ands; refine bkeepS ?_; first | exact (Below.refl _ _).drew | exact (al _ _).drew | exact (al2 _ _ _).drew))
      clear hK K
      refine wpAnyH_done (by kernel_rfl) ?_ _
      go_wp2
      go_meet
      exact ⟨_, _, rfl, rfl, (two_boxes w1 (yo, ya, yb, yk) (1, xa, xb, i)).2, (two_boxes w1 (yo, ya, yb, yk) (1, xa, xb, i)).1, hA1.below ((al2 _ _ _).drew), (hl0.trans ((al2 _ _ _).mono hl0.size)).drew⟩
  case rest =>
    obtain ⟨gx, gy, rfl, rfl, hX, hY, hAc, hBc⟩ := hcut
    have HA := hid hAc
    have hlt := hAc.lt
    have hns : ∀ g, blk (some ⟨b1, o1, none⟩) = some g → g < w.heap.size := fun g hg => by injection hg with hg; rw [← hg]; exact hbw
    have hne : some w.heap.size ≠ blk (some ⟨b1, o1, none⟩) := fun h => by have := hns _ h.symm; omega
    have HBB := hid hBc
    have hgx := hX.lt
    have hgy := hY.lt
    obtain ⟨x0, x1, x2, x3, x4⟩ := hX.cells
    obtain ⟨y0, y1, y2, y3, y4⟩ := hY.cells
    simp only at x0 x1 x2 x3 y0 y1 y2 y3
    clear hX hY x4 y4 hBc hAc hA1 hl0 hw1 p0 p1 p2 p3 r0 r1 r2 r3 hb1
    go_wp2_with fail
    refine (HRR.out _ (HO.out.1.below HBB.out) (Nat.le_trans HO.out.2 HBB.out.size)).mono ?_
    rintro e w3 ⟨s', n', c', L', o, p, q, k, rfl, g1⟩
    have HG := hid g1
    have HA2 := hid (HA.out.grown g1.2.1 hne)
    obtain ⟨a0, a1, a2, a3, a4⟩ := HA2.out.cells
    clear g1 HRR x0 x1 x2 x3 y0 y1 y2 y3
    go_wp2
    (try simp only [Exit.inBlock, Exit.then])
    refine bodyPost_ret (results_atom3 rfl _ _ rfl (HA2.out.put _ _ _ _)) rfl ?_
    exact AtAt.box HBB.out (Nat.le_refl _) hlt hns (⟨s', n', c', L', o, p, q, k, rfl, HG.out⟩) _ _ _ _

set_option maxHeartbeats 6400000 in
set_option maxRecDepth 100000 in
theorem rmakeA_nx (op : Int) (nt : Bool) (base n c a b : Nat) (s : Option Addr) (L : List TM.N) (hn : n < 65536) (h1 : TM.Row L) (h2 : TM.Once L) (h3 : ∀ x ∈ L, TM.okN x) (ha : a < n) (hb : b < n) (xa xb yo ya yb yk i : Int) (hx : TM.nat0 L a = (1, xa, xb, i)) (hy : TM.nat0 L b = (yo, ya, yb, yk)) (w : World) (hO : OwnN w base s n c L) (hbase : base ≤ w.heap.size) (ho : op ≠ 32 ∧ op ≠ 48) (B : Nat) (t : TM.At) (hyo : yo ≠ 1) (HR : ∀ W, OwnN W base s n c L → base ≤ W.heap.size → Calls Try.prog 20 #[.slice s n c, .int .i64 op, .int .i64 b, .int .i64 a, .bool (nt)] W fun e w' => AtAt base W s L t B e w') :
    Calls Try.prog 20 #[.slice s n c, .int .i64 op, .int .i64 a, .int .i64 b, .bool nt] w fun e w' => AtAt base w s L t B e w' := by
  have hl := hO.len
  have HRR := hid HR
  have q1 : (yo == 1) = false := by rw [beq_eq_false_iff_ne]; exact hyo
  have q2 : (op == 32) = false := by rw [beq_eq_false_iff_ne]; exact ho.1
  have q3 : (op == 48) = false := by rw [beq_eq_false_iff_ne]; exact ho.2
  have HO := hid (And.intro hO hbase)
  obtain ⟨b1, o1, rfl, hly⟩ := hO.lies.ly (by omega)
  rw [TM.nat0_eq (by omega)] at hx hy
  have i1 : (a : Int) < (n : Int) := by omega
  have i2 : (b : Int) < (n : Int) := by omega
  obtain ⟨w1, hw1⟩ : ∃ w1, w.alloc (.cells #[.int .i64 0, .int .i64 0, .int .i64 0, .bool false] 24) = w1 := ⟨_, rfl⟩
  have hl0 := al w (.cells #[.int .i64 0, .int .i64 0, .int .i64 0, .bool false] 24)
  have hA1 := AAt.new w 0 0 0 false
  have hbw := hly.1
  rw [hw1] at hl0 hA1
  have hly1 := hly.below hl0
  obtain ⟨p0, p1, p2, p3⟩ := hly1.2 a (by omega)
  obtain ⟨r0, r1, r2, r3⟩ := hly1.2 b (by omega)
  rw [hx] at p0 p1 p2 p3
  rw [hy] at r0 r1 r2 r3
  simp only at p0 p1 p2 p3 r0 r1 r2 r3
  have hb1 := hly1.1
  clear hO hbase h1 h2 h3 hx hy hly hl hly1 HR hyo ho
  go_enter Try.func20, Try.ntmps20
  go_upto_region 1 with fail
  go_cut [13, 14] (fun s13 s14 wx => ∃ gx gy : Nat, s13 = .pointer (some ⟨gx, 0, none⟩) ∧ s14 = .pointer (some ⟨gy, 0, none⟩) ∧ NAt wx gx (1, xa, xb, i) ∧ NAt wx gy (yo, ya, yb, yk) ∧ AAt wx w.heap.size 0 0 0 false ∧ Below w.heap.size w wx)
  case first =>
    refine wp_region_held_drew (S := fun w' => (∀ b o, b < w1.heap.size → w'.cell? ⟨b, o, none⟩ = w1.cell? ⟨b, o, none⟩) ∧ Below w1.heap.size w1 w') (by kernel_rfl) ?_ (fun hHeld => ?_)
    · ((try dsimp only); (go_split_ands; refine bkeepS ?_; first | exact (Below.refl _ _).drew | assumption | exact Below.trans (by assumption) (Below.mono (by assumption) (Below.size (by assumption)))))
    change wpAnyH _ _ _ _ _ 12 #[false, false, false, false, false, false, false, false, false, false, false, false] _ _
    refine wpAnyH_take (i := 0) (v := ?_) (by simp only [List.getElem?_toArray, List.getElem?_cons_zero]; rfl) (by kernel_rfl) (by kernel_rfl) (by kernel_rfl) (by exact fun _ _ _ h => h) (Or.inl ⟨by rfl, ?_⟩) (by assumption) ?_
    rotate_left
    · (intro w hSw; (try dsimp only at hSw); go_simp; try with_reducible rfl)
    try simp only [Act.put, List.setIfInBounds_toArray, List.set_cons_zero, List.set_cons_succ]
    refine wpAnyH_take (i := 1) (v := ?_) (by simp only [List.getElem?_toArray, List.getElem?_cons_succ, List.getElem?_cons_zero]; rfl) (by kernel_rfl) (by kernel_rfl) (by kernel_rfl) (by exact fun _ _ _ h => h) (Or.inl ⟨by rfl, ?_⟩) (by assumption) ?_
    rotate_left
    · (intro w hSw; (try dsimp only at hSw); go_simp; try with_reducible rfl)
    try simp only [Act.put, List.setIfInBounds_toArray, List.set_cons_zero, List.set_cons_succ]
    refine wpAnyH_take (i := 2) (v := ?_) (by simp only [List.getElem?_toArray, List.getElem?_cons_succ, List.getElem?_cons_zero]; rfl) (by kernel_rfl) (by kernel_rfl) (by kernel_rfl) (by exact fun _ _ _ h => h) (Or.inl ⟨by rfl, ?_⟩) (by assumption) ?_
    rotate_left
    · (intro w hSw; (try dsimp only at hSw); go_simp; try with_reducible rfl)
    try simp only [Act.put, List.setIfInBounds_toArray, List.set_cons_zero, List.set_cons_succ]
    refine wpAnyH_take (i := 3) (v := ?_) (by simp only [List.getElem?_toArray, List.getElem?_cons_succ, List.getElem?_cons_zero]; rfl) (by kernel_rfl) (by kernel_rfl) (by kernel_rfl) (by exact fun _ _ _ h => h) (Or.inl ⟨by rfl, ?_⟩) (by assumption) ?_
    rotate_left
    · (intro w hSw; (try dsimp only at hSw); go_simp; try with_reducible rfl)
    try simp only [Act.put, List.setIfInBounds_toArray, List.set_cons_zero, List.set_cons_succ]
    refine wpAnyH_take (i := 4) (v := ?_) (by simp only [List.getElem?_toArray, List.getElem?_cons_succ, List.getElem?_cons_zero]; rfl) (by kernel_rfl) (by kernel_rfl) (by kernel_rfl) (by exact fun _ _ _ h => h) (Or.inl ⟨by rfl, ?_⟩) (by assumption) ?_
    rotate_left
    · (intro w hSw; (try dsimp only at hSw); go_simp; try with_reducible rfl)
    try simp only [Act.put, List.setIfInBounds_toArray, List.set_cons_zero, List.set_cons_succ]
    refine wpAnyH_take (i := 5) (v := ?_) (by simp only [List.getElem?_toArray, List.getElem?_cons_succ, List.getElem?_cons_zero]; rfl) (by kernel_rfl) (by kernel_rfl) (by kernel_rfl) (by exact fun _ _ _ h => h) (Or.inl ⟨by rfl, ?_⟩) (by assumption) ?_
    rotate_left
    · (intro w hSw; (try dsimp only at hSw); go_simp; try with_reducible rfl)
    try simp only [Act.put, List.setIfInBounds_toArray, List.set_cons_zero, List.set_cons_succ]
    refine wpAnyH_take (i := 6) (v := ?_) (by simp only [List.getElem?_toArray, List.getElem?_cons_succ, List.getElem?_cons_zero]; rfl) (by kernel_rfl) (by kernel_rfl) (by kernel_rfl) (by exact fun _ _ _ h => h) (Or.inl ⟨by rfl, ?_⟩) (by assumption) ?_
    rotate_left
    · (intro w hSw; (try dsimp only at hSw); go_simp; try with_reducible rfl)
    try simp only [Act.put, List.setIfInBounds_toArray, List.set_cons_zero, List.set_cons_succ]
    refine wpAnyH_take (i := 7) (v := ?_) (by simp only [List.getElem?_toArray, List.getElem?_cons_succ, List.getElem?_cons_zero]; rfl) (by kernel_rfl) (by kernel_rfl) (by kernel_rfl) (by exact fun _ _ _ h => h) (Or.inl ⟨by rfl, ?_⟩) (by assumption) ?_
    rotate_left
    · (intro w hSw; (try dsimp only at hSw); go_simp; try with_reducible rfl)
    try simp only [Act.put, List.setIfInBounds_toArray, List.set_cons_zero, List.set_cons_succ]
    refine wpAnyH_ready (rs := [8, 9]) (by kernel_rfl) (by simp) ?_
    refine AllReadyH.cons rfl (fun K hK => ?_) (AllReadyH.cons rfl (fun K hK => ?_) AllReadyH.nil)
    · go_simp
      try dsimp only
      refine hK.out _ _ ?_ (fun hHeld => ?_)
      · ((try dsimp only); (go_split_ands; refine bkeepS ?_; first | exact (Below.refl _ _).drew | exact (al _ _).drew | exact (al2 _ _ _).drew))
      clear hK K
      refine wpAnyH_ready (rs := [9]) (by kernel_rfl) (by simp) ?_
      refine AllReadyH.cons rfl (fun K hK => ?_) AllReadyH.nil
      go_simp
      try dsimp only
      refine hK.out _ _ ?_ (fun hHeld => ?_)
      · ((try dsimp only); (go_split_ands; refine bkeepS ?_; first | exact (Below.refl _ _).drew | exact (al _ _).drew | exact (al2 _ _ _).drew))
      clear hK K
      refine wpAnyH_ready (rs := [10]) (by kernel_rfl) (by simp) ?_
      refine AllReadyH.cons rfl (fun K hK => ?_) AllReadyH.nil
      go_simp
      try dsimp only
      refine hK.out _ _ ?_ (fun hHeld => ?_)
      · ((try dsimp only); (go_split_ands; refine bkeepS ?_; first | exact (Below.refl _ _).drew | exact (al _ _).drew | exact (al2 _ _ _).drew))
      clear hK K
      refine wpAnyH_ready (rs := [11]) (by kernel_rfl) (by simp) ?_
      refine AllReadyH.cons rfl (fun K hK => ?_) AllReadyH.nil
      go_simp
      try dsimp only
      refine hK.out _ _ ?_ (fun hHeld => ?_)
      · ((try dsimp only); (go_split_ands; refine bkeepS ?_; first | exact (Below.refl _ _).drew | exact (al _ _).drew | exact (al2 _ _ _).drew))
      clear hK K
      refine wpAnyH_done (by kernel_rfl) ?_ _
      go_wp2
      go_meet
      exact ⟨_, _, rfl, rfl, (two_boxes w1 (1, xa, xb, i) (yo, ya, yb, yk)).1, (two_boxes w1 (1, xa, xb, i) (yo, ya, yb, yk)).2, hA1.below ((al2 _ _ _).drew), (hl0.trans ((al2 _ _ _).mono hl0.size)).drew⟩
    · go_simp
      try dsimp only
      refine hK.out _ _ ?_ (fun hHeld => ?_)
      · ((try dsimp only); (go_split_ands; refine bkeepS ?_; first | exact (Below.refl _ _).drew | exact (al _ _).drew | exact (al2 _ _ _).drew))
      clear hK K
      refine wpAnyH_ready (rs := [8]) (by kernel_rfl) (by simp) ?_
      refine AllReadyH.cons rfl (fun K hK => ?_) AllReadyH.nil
      go_simp
      try dsimp only
      refine hK.out _ _ ?_ (fun hHeld => ?_)
      · ((try dsimp only); (go_split_ands; refine bkeepS ?_; first | exact (Below.refl _ _).drew | exact (al _ _).drew | exact (al2 _ _ _).drew))
      clear hK K
      refine wpAnyH_ready (rs := [10]) (by kernel_rfl) (by simp) ?_
      refine AllReadyH.cons rfl (fun K hK => ?_) AllReadyH.nil
      go_simp
      try dsimp only
      refine hK.out _ _ ?_ (fun hHeld => ?_)
      · ((try dsimp only); (go_split_ands; refine bkeepS ?_; first | exact (Below.refl _ _).drew | exact (al _ _).drew | exact (al2 _ _ _).drew))
      clear hK K
      refine wpAnyH_ready (rs := [11]) (by kernel_rfl) (by simp) ?_
      refine AllReadyH.cons rfl (fun K hK => ?_) AllReadyH.nil
      go_simp
      try dsimp only
      refine hK.out _ _ ?_ (fun hHeld => ?_)
      · ((try dsimp only); (go_split_ands; refine bkeepS ?_; first | exact (Below.refl _ _).drew | exact (al _ _).drew | exact (al2 _ _ _).drew))
      clear hK K
      refine wpAnyH_done (by kernel_rfl) ?_ _
      go_wp2
      go_meet
      exact ⟨_, _, rfl, rfl, (two_boxes w1 (yo, ya, yb, yk) (1, xa, xb, i)).2, (two_boxes w1 (yo, ya, yb, yk) (1, xa, xb, i)).1, hA1.below ((al2 _ _ _).drew), (hl0.trans ((al2 _ _ _).mono hl0.size)).drew⟩
  case rest =>
    obtain ⟨gx, gy, rfl, rfl, hX, hY, hAc, hBc⟩ := hcut
    have HA := hid hAc
    have hlt := hAc.lt
    have hns : ∀ g, blk (some ⟨b1, o1, none⟩) = some g → g < w.heap.size := fun g hg => by injection hg with hg; rw [← hg]; exact hbw
    have hne : some w.heap.size ≠ blk (some ⟨b1, o1, none⟩) := fun h => by have := hns _ h.symm; omega
    have HBB := hid hBc
    have hgx := hX.lt
    have hgy := hY.lt
    obtain ⟨x0, x1, x2, x3, x4⟩ := hX.cells
    obtain ⟨y0, y1, y2, y3, y4⟩ := hY.cells
    simp only at x0 x1 x2 x3 y0 y1 y2 y3
    clear hX hY x4 y4 hBc hAc hA1 hl0 hw1 p0 p1 p2 p3 r0 r1 r2 r3 hb1
    go_wp2_with fail
    refine (HRR.out _ (HO.out.1.below HBB.out) (Nat.le_trans HO.out.2 HBB.out.size)).mono ?_
    rintro e w3 ⟨s', n', c', L', o, p, q, k, rfl, g1⟩
    have HG := hid g1
    have HA2 := hid (HA.out.grown g1.2.1 hne)
    obtain ⟨a0, a1, a2, a3, a4⟩ := HA2.out.cells
    clear g1 HRR x0 x1 x2 x3 y0 y1 y2 y3
    go_wp2
    (try simp only [Exit.inBlock, Exit.then])
    refine bodyPost_ret (results_atom3 rfl _ _ rfl (HA2.out.put _ _ _ _)) rfl ?_
    exact AtAt.box HBB.out (Nat.le_refl _) hlt hns (⟨s', n', c', L', o, p, q, k, rfl, HG.out⟩) _ _ _ _

set_option maxHeartbeats 6400000 in
set_option maxRecDepth 100000 in
theorem rmakeA_open (op : Int) (nt : Bool) (base n c a b : Nat) (s : Option Addr) (L : List TM.N) (hn : n < 65536) (h1 : TM.Row L) (h2 : TM.Once L) (h3 : ∀ x ∈ L, TM.okN x) (ha : a < n) (hb : b < n) (xo xa xb xk yo ya yb yk : Int) (hx : TM.nat0 L a = (xo, xa, xb, xk)) (hy : TM.nat0 L b = (yo, ya, yb, yk)) (w : World) (hO : OwnN w base s n c L) (hbase : base ≤ w.heap.size) (hxo : xo ≠ 1) (hyo : yo ≠ 1) (hab : a ≠ b) :
    Calls Try.prog 20 #[.slice s n c, .int .i64 op, .int .i64 a, .int .i64 b, .bool nt] w fun e w' => AtAt base w s L (TM.opA op (TM.tr L a) (TM.tr L b) nt) 0 e w' := by
  have hl := hO.len
  have q1 : (xo == 1) = false := by rw [beq_eq_false_iff_ne]; exact hxo
  have q2 : (yo == 1) = false := by rw [beq_eq_false_iff_ne]; exact hyo
  have q3 : ((a : Int) == (b : Int)) = false := by rw [beq_eq_false_iff_ne]; omega
  have HK := hid (fun W (h : Below w.heap.size w W) => AtAt.opn (hO.below h) (Below.refl _ _) h1 h2 h3 (p := a) (q := b) (by omega) (by omega) op nt 0)
  have HO := hid (And.intro hO hbase)
  obtain ⟨b1, o1, rfl, hly⟩ := hO.lies.ly (by omega)
  rw [TM.nat0_eq (by omega)] at hx hy
  have i1 : (a : Int) < (n : Int) := by omega
  have i2 : (b : Int) < (n : Int) := by omega
  obtain ⟨w1, hw1⟩ : ∃ w1, w.alloc (.cells #[.int .i64 0, .int .i64 0, .int .i64 0, .bool false] 24) = w1 := ⟨_, rfl⟩
  have hl0 := al w (.cells #[.int .i64 0, .int .i64 0, .int .i64 0, .bool false] 24)
  have hA1 := AAt.new w 0 0 0 false
  have hbw := hly.1
  rw [hw1] at hl0 hA1
  have hly1 := hly.below hl0
  obtain ⟨p0, p1, p2, p3⟩ := hly1.2 a (by omega)
  obtain ⟨r0, r1, r2, r3⟩ := hly1.2 b (by omega)
  rw [hx] at p0 p1 p2 p3
  rw [hy] at r0 r1 r2 r3
  simp only at p0 p1 p2 p3 r0 r1 r2 r3
  have hb1 := hly1.1
  clear hO hbase h1 h2 h3 hx hy hly hl hly1 hxo hyo hab
  go_enter Try.func20, Try.ntmps20
  go_upto_region 1 with fail
  go_cut [13, 14] (fun s13 s14 wx => ∃ gx gy : Nat, s13 = .pointer (some ⟨gx, 0, none⟩) ∧ s14 = .pointer (some ⟨gy, 0, none⟩) ∧ NAt wx gx (xo, xa, xb, xk) ∧ NAt wx gy (yo, ya, yb, yk) ∧ AAt wx w.heap.size 0 0 0 false ∧ Below w.heap.size w wx)
  case first =>
    refine wp_region_held_drew (S := fun w' => (∀ b o, b < w1.heap.size → w'.cell? ⟨b, o, none⟩ = w1.cell? ⟨b, o, none⟩) ∧ Below w1.heap.size w1 w') (by kernel_rfl) ?_ (fun hHeld => ?_)
    · ((try dsimp only); (go_split_ands; refine bkeepS ?_; first | exact (Below.refl _ _).drew | assumption | exact Below.trans (by assumption) (Below.mono (by assumption) (Below.size (by assumption)))))
    change wpAnyH _ _ _ _ _ 12 #[false, false, false, false, false, false, false, false, false, false, false, false] _ _
    refine wpAnyH_take (i := 0) (v := ?_) (by simp only [List.getElem?_toArray, List.getElem?_cons_zero]; rfl) (by kernel_rfl) (by kernel_rfl) (by kernel_rfl) (by exact fun _ _ _ h => h) (Or.inl ⟨by rfl, ?_⟩) (by assumption) ?_
    rotate_left
    · (intro w hSw; (try dsimp only at hSw); go_simp; try with_reducible rfl)
    try simp only [Act.put, List.setIfInBounds_toArray, List.set_cons_zero, List.set_cons_succ]
    refine wpAnyH_take (i := 1) (v := ?_) (by simp only [List.getElem?_toArray, List.getElem?_cons_succ, List.getElem?_cons_zero]; rfl) (by kernel_rfl) (by kernel_rfl) (by kernel_rfl) (by exact fun _ _ _ h => h) (Or.inl ⟨by rfl, ?_⟩) (by assumption) ?_
    rotate_left
    · (intro w hSw; (try dsimp only at hSw); go_simp; try with_reducible rfl)
    try simp only [Act.put, List.setIfInBounds_toArray, List.set_cons_zero, List.set_cons_succ]
    refine wpAnyH_take (i := 2) (v := ?_) (by simp only [List.getElem?_toArray, List.getElem?_cons_succ, List.getElem?_cons_zero]; rfl) (by kernel_rfl) (by kernel_rfl) (by kernel_rfl) (by exact fun _ _ _ h => h) (Or.inl ⟨by rfl, ?_⟩) (by assumption) ?_
    rotate_left
    · (intro w hSw; (try dsimp only at hSw); go_simp; try with_reducible rfl)
    try simp only [Act.put, List.setIfInBounds_toArray, List.set_cons_zero, List.set_cons_succ]
    refine wpAnyH_take (i := 3) (v := ?_) (by simp only [List.getElem?_toArray, List.getElem?_cons_succ, List.getElem?_cons_zero]; rfl) (by kernel_rfl) (by kernel_rfl) (by kernel_rfl) (by exact fun _ _ _ h => h) (Or.inl ⟨by rfl, ?_⟩) (by assumption) ?_
    rotate_left
    · (intro w hSw; (try dsimp only at hSw); go_simp; try with_reducible rfl)
    try simp only [Act.put, List.setIfInBounds_toArray, List.set_cons_zero, List.set_cons_succ]
    refine wpAnyH_take (i := 4) (v := ?_) (by simp only [List.getElem?_toArray, List.getElem?_cons_succ, List.getElem?_cons_zero]; rfl) (by kernel_rfl) (by kernel_rfl) (by kernel_rfl) (by exact fun _ _ _ h => h) (Or.inl ⟨by rfl, ?_⟩) (by assumption) ?_
    rotate_left
    · (intro w hSw; (try dsimp only at hSw); go_simp; try with_reducible rfl)
    try simp only [Act.put, List.setIfInBounds_toArray, List.set_cons_zero, List.set_cons_succ]
    refine wpAnyH_take (i := 5) (v := ?_) (by simp only [List.getElem?_toArray, List.getElem?_cons_succ, List.getElem?_cons_zero]; rfl) (by kernel_rfl) (by kernel_rfl) (by kernel_rfl) (by exact fun _ _ _ h => h) (Or.inl ⟨by rfl, ?_⟩) (by assumption) ?_
    rotate_left
    · (intro w hSw; (try dsimp only at hSw); go_simp; try with_reducible rfl)
    try simp only [Act.put, List.setIfInBounds_toArray, List.set_cons_zero, List.set_cons_succ]
    refine wpAnyH_take (i := 6) (v := ?_) (by simp only [List.getElem?_toArray, List.getElem?_cons_succ, List.getElem?_cons_zero]; rfl) (by kernel_rfl) (by kernel_rfl) (by kernel_rfl) (by exact fun _ _ _ h => h) (Or.inl ⟨by rfl, ?_⟩) (by assumption) ?_
    rotate_left
    · (intro w hSw; (try dsimp only at hSw); go_simp; try with_reducible rfl)
    try simp only [Act.put, List.setIfInBounds_toArray, List.set_cons_zero, List.set_cons_succ]
    refine wpAnyH_take (i := 7) (v := ?_) (by simp only [List.getElem?_toArray, List.getElem?_cons_succ, List.getElem?_cons_zero]; rfl) (by kernel_rfl) (by kernel_rfl) (by kernel_rfl) (by exact fun _ _ _ h => h) (Or.inl ⟨by rfl, ?_⟩) (by assumption) ?_
    rotate_left
    · (intro w hSw; (try dsimp only at hSw); go_simp; try with_reducible rfl)
    try simp only [Act.put, List.setIfInBounds_toArray, List.set_cons_zero, List.set_cons_succ]
    refine wpAnyH_ready (rs := [8, 9]) (by kernel_rfl) (by simp) ?_
    refine AllReadyH.cons rfl (fun K hK => ?_) (AllReadyH.cons rfl (fun K hK => ?_) AllReadyH.nil)
    · go_simp
      try dsimp only
      refine hK.out _ _ ?_ (fun hHeld => ?_)
      · ((try dsimp only); (go_split_ands; refine bkeepS ?_; first | exact (Below.refl _ _).drew | exact (al _ _).drew | exact (al2 _ _ _).drew))
      clear hK K
      refine wpAnyH_ready (rs := [9]) (by kernel_rfl) (by simp) ?_
      refine AllReadyH.cons rfl (fun K hK => ?_) AllReadyH.nil
      go_simp
      try dsimp only
      refine hK.out _ _ ?_ (fun hHeld => ?_)
      · ((try dsimp only); (go_split_ands; refine bkeepS ?_; first | exact (Below.refl _ _).drew | exact (al _ _).drew | exact (al2 _ _ _).drew))
      clear hK K
      refine wpAnyH_ready (rs := [10]) (by kernel_rfl) (by simp) ?_
      refine AllReadyH.cons rfl (fun K hK => ?_) AllReadyH.nil
      go_simp
      try dsimp only
      refine hK.out _ _ ?_ (fun hHeld => ?_)
      · ((try dsimp only); (go_split_ands; refine bkeepS ?_; first | exact (Below.refl _ _).drew | exact (al _ _).drew | exact (al2 _ _ _).drew))
      clear hK K
      refine wpAnyH_ready (rs := [11]) (by kernel_rfl) (by simp) ?_
      refine AllReadyH.cons rfl (fun K hK => ?_) AllReadyH.nil
      go_simp
      try dsimp only
      refine hK.out _ _ ?_ (fun hHeld => ?_)
      · ((try dsimp only); (go_split_ands; refine bkeepS ?_; first | exact (Below.refl _ _).drew | exact (al _ _).drew | exact (al2 _ _ _).drew))
      clear hK K
      refine wpAnyH_done (by kernel_rfl) ?_ _
      go_wp2
      go_meet
      exact ⟨_, _, rfl, rfl, (two_boxes w1 (xo, xa, xb, xk) (yo, ya, yb, yk)).1, (two_boxes w1 (xo, xa, xb, xk) (yo, ya, yb, yk)).2, hA1.below ((al2 _ _ _).drew), (hl0.trans ((al2 _ _ _).mono hl0.size)).drew⟩
    · go_simp
      try dsimp only
      refine hK.out _ _ ?_ (fun hHeld => ?_)
      · ((try dsimp only); (go_split_ands; refine bkeepS ?_; first | exact (Below.refl _ _).drew | exact (al _ _).drew | exact (al2 _ _ _).drew))
      clear hK K
      refine wpAnyH_ready (rs := [8]) (by kernel_rfl) (by simp) ?_
      refine AllReadyH.cons rfl (fun K hK => ?_) AllReadyH.nil
      go_simp
      try dsimp only
      refine hK.out _ _ ?_ (fun hHeld => ?_)
      · ((try dsimp only); (go_split_ands; refine bkeepS ?_; first | exact (Below.refl _ _).drew | exact (al _ _).drew | exact (al2 _ _ _).drew))
      clear hK K
      refine wpAnyH_ready (rs := [10]) (by kernel_rfl) (by simp) ?_
      refine AllReadyH.cons rfl (fun K hK => ?_) AllReadyH.nil
      go_simp
      try dsimp only
      refine hK.out _ _ ?_ (fun hHeld => ?_)
      · ((try dsimp only); (go_split_ands; refine bkeepS ?_; first | exact (Below.refl _ _).drew | exact (al _ _).drew | exact (al2 _ _ _).drew))
      clear hK K
      refine wpAnyH_ready (rs := [11]) (by kernel_rfl) (by simp) ?_
      refine AllReadyH.cons rfl (fun K hK => ?_) AllReadyH.nil
      go_simp
      try dsimp only
      refine hK.out _ _ ?_ (fun hHeld => ?_)
      · ((try dsimp only); (go_split_ands; refine bkeepS ?_; first | exact (Below.refl _ _).drew | exact (al _ _).drew | exact (al2 _ _ _).drew))
      clear hK K
      refine wpAnyH_done (by kernel_rfl) ?_ _
      go_wp2
      go_meet
      exact ⟨_, _, rfl, rfl, (two_boxes w1 (yo, ya, yb, yk) (xo, xa, xb, xk)).2, (two_boxes w1 (yo, ya, yb, yk) (xo, xa, xb, xk)).1, hA1.below ((al2 _ _ _).drew), (hl0.trans ((al2 _ _ _).mono hl0.size)).drew⟩
  case rest =>
    obtain ⟨gx, gy, rfl, rfl, hX, hY, hAc, hBc⟩ := hcut
    have HA := hid hAc
    have hlt := hAc.lt
    have hns : ∀ g, blk (some ⟨b1, o1, none⟩) = some g → g < w.heap.size := fun g hg => by injection hg with hg; rw [← hg]; exact hbw
    have hne : some w.heap.size ≠ blk (some ⟨b1, o1, none⟩) := fun h => by have := hns _ h.symm; omega
    have HBB := hid hBc
    have hgx := hX.lt
    have hgy := hY.lt
    obtain ⟨x0, x1, x2, x3, x4⟩ := hX.cells
    obtain ⟨y0, y1, y2, y3, y4⟩ := hY.cells
    simp only at x0 x1 x2 x3 y0 y1 y2 y3
    clear hX hY x4 y4 hBc hAc hA1 hl0 hw1 p0 p1 p2 p3 r0 r1 r2 r3 hb1
    obtain ⟨a0, a1, a2, a3, a4⟩ := HA.out.cells
    go_wp2
    (try simp only [Exit.inBlock, Exit.then])
    refine bodyPost_ret (results_atom3 rfl _ _ rfl (HA.out.put _ _ _ _)) rfl ?_
    exact AtAt.box HBB.out (Nat.le_refl _) hlt hns (HK.out _ HBB.out) _ _ _ _

set_option maxHeartbeats 6400000 in
set_option maxRecDepth 100000 in
theorem rmakeA_same (op : Int) (nt : Bool) (base n c a b : Nat) (s : Option Addr) (L : List TM.N) (hn : n < 65536) (h1 : TM.Row L) (h2 : TM.Once L) (h3 : ∀ x ∈ L, TM.okN x) (ha : a < n) (hb : b < n) (xo xa xb xk yo ya yb yk : Int) (hx : TM.nat0 L a = (xo, xa, xb, xk)) (hy : TM.nat0 L b = (yo, ya, yb, yk)) (w : World) (hO : OwnN w base s n c L) (hbase : base ≤ w.heap.size) (hxo : xo ≠ 1) (hyo : yo ≠ 1) (hab : a = b) (ho : op ≠ 64) :
    Calls Try.prog 20 #[.slice s n c, .int .i64 op, .int .i64 a, .int .i64 b, .bool nt] w fun e w' => AtAt base w s L (TM.knB (op != 32) nt) 0 e w' := by
  have hl := hO.len
  have q1 : (xo == 1) = false := by rw [beq_eq_false_iff_ne]; exact hxo
  have q2 : (yo == 1) = false := by rw [beq_eq_false_iff_ne]; exact hyo
  have q3 : ((a : Int) == (b : Int)) = true := by rw [beq_iff_eq]; omega
  have q4 : (op == 64) = false := by rw [beq_eq_false_iff_ne]; exact ho
  have HK := hid (fun W (h : Below w.heap.size w W) W' (h' : Below W.heap.size W W') x => AtAt.kn (hO.below h) h' h1 h2 h3 x nt 0)
  obtain ⟨z, hz⟩ : ∃ z, (op != 32) = z := ⟨_, rfl⟩
  rw [hz]
  have HO := hid (And.intro hO hbase)
  obtain ⟨b1, o1, rfl, hly⟩ := hO.lies.ly (by omega)
  rw [TM.nat0_eq (by omega)] at hx hy
  have i1 : (a : Int) < (n : Int) := by omega
  have i2 : (b : Int) < (n : Int) := by omega
  obtain ⟨w1, hw1⟩ : ∃ w1, w.alloc (.cells #[.int .i64 0, .int .i64 0, .int .i64 0, .bool false] 24) = w1 := ⟨_, rfl⟩
  have hl0 := al w (.cells #[.int .i64 0, .int .i64 0, .int .i64 0, .bool false] 24)
  have hA1 := AAt.new w 0 0 0 false
  have hbw := hly.1
  rw [hw1] at hl0 hA1
  have hly1 := hly.below hl0
  obtain ⟨p0, p1, p2, p3⟩ := hly1.2 a (by omega)
  obtain ⟨r0, r1, r2, r3⟩ := hly1.2 b (by omega)
  rw [hx] at p0 p1 p2 p3
  rw [hy] at r0 r1 r2 r3
  simp only at p0 p1 p2 p3 r0 r1 r2 r3
  have hb1 := hly1.1
  clear hO hbase h1 h2 h3 hx hy hly hl hly1 hxo hyo ho hab
  go_enter Try.func20, Try.ntmps20
  go_upto_region 1 with fail
  go_cut [13, 14] (fun s13 s14 wx => ∃ gx gy : Nat, s13 = .pointer (some ⟨gx, 0, none⟩) ∧ s14 = .pointer (some ⟨gy, 0, none⟩) ∧ NAt wx gx (xo, xa, xb, xk) ∧ NAt wx gy (yo, ya, yb, yk) ∧ AAt wx w.heap.size 0 0 0 false ∧ Below w.heap.size w wx)
  case first =>
    refine wp_region_held_drew (S := fun w' => (∀ b o, b < w1.heap.size → w'.cell? ⟨b, o, none⟩ = w1.cell? ⟨b, o, none⟩) ∧ Below w1.heap.size w1 w') (by kernel_rfl) ?_ (fun hHeld => ?_)
    · ((try dsimp only); (go_split_ands; refine bkeepS ?_; first | exact (Below.refl _ _).drew | assumption | exact Below.trans (by assumption) (Below.mono (by assumption) (Below.size (by assumption)))))
    change wpAnyH _ _ _ _ _ 12 #[false, false, false, false, false, false, false, false, false, false, false, false] _ _
    refine wpAnyH_take (i := 0) (v := ?_) (by simp only [List.getElem?_toArray, List.getElem?_cons_zero]; rfl) (by kernel_rfl) (by kernel_rfl) (by kernel_rfl) (by exact fun _ _ _ h => h) (Or.inl ⟨by rfl, ?_⟩) (by assumption) ?_
    rotate_left
    · (intro w hSw; (try dsimp only at hSw); go_simp; try with_reducible rfl)
    try simp only [Act.put, List.setIfInBounds_toArray, List.set_cons_zero, List.set_cons_succ]
    refine wpAnyH_take (i := 1) (v := ?_) (by simp only [List.getElem?_toArray, List.getElem?_cons_succ, List.getElem?_cons_zero]; rfl) (by kernel_rfl) (by kernel_rfl) (by kernel_rfl) (by exact fun _ _ _ h => h) (Or.inl ⟨by rfl, ?_⟩) (by assumption) ?_
    rotate_left
    · (intro w hSw; (try dsimp only at hSw); go_simp; try with_reducible rfl)
    try simp only [Act.put, List.setIfInBounds_toArray, List.set_cons_zero, List.set_cons_succ]
    refine wpAnyH_take (i := 2) (v := ?_) (by simp only [List.getElem?_toArray, List.getElem?_cons_succ, List.getElem?_cons_zero]; rfl) (by kernel_rfl) (by kernel_rfl) (by kernel_rfl) (by exact fun _ _ _ h => h) (Or.inl ⟨by rfl, ?_⟩) (by assumption) ?_
    rotate_left
    · (intro w hSw; (try dsimp only at hSw); go_simp; try with_reducible rfl)
    try simp only [Act.put, List.setIfInBounds_toArray, List.set_cons_zero, List.set_cons_succ]
    refine wpAnyH_take (i := 3) (v := ?_) (by simp only [List.getElem?_toArray, List.getElem?_cons_succ, List.getElem?_cons_zero]; rfl) (by kernel_rfl) (by kernel_rfl) (by kernel_rfl) (by exact fun _ _ _ h => h) (Or.inl ⟨by rfl, ?_⟩) (by assumption) ?_
    rotate_left
    · (intro w hSw; (try dsimp only at hSw); go_simp; try with_reducible rfl)
    try simp only [Act.put, List.setIfInBounds_toArray, List.set_cons_zero, List.set_cons_succ]
    refine wpAnyH_take (i := 4) (v := ?_) (by simp only [List.getElem?_toArray, List.getElem?_cons_succ, List.getElem?_cons_zero]; rfl) (by kernel_rfl) (by kernel_rfl) (by kernel_rfl) (by exact fun _ _ _ h => h) (Or.inl ⟨by rfl, ?_⟩) (by assumption) ?_
    rotate_left
    · (intro w hSw; (try dsimp only at hSw); go_simp; try with_reducible rfl)
    try simp only [Act.put, List.setIfInBounds_toArray, List.set_cons_zero, List.set_cons_succ]
    refine wpAnyH_take (i := 5) (v := ?_) (by simp only [List.getElem?_toArray, List.getElem?_cons_succ, List.getElem?_cons_zero]; rfl) (by kernel_rfl) (by kernel_rfl) (by kernel_rfl) (by exact fun _ _ _ h => h) (Or.inl ⟨by rfl, ?_⟩) (by assumption) ?_
    rotate_left
    · (intro w hSw; (try dsimp only at hSw); go_simp; try with_reducible rfl)
    try simp only [Act.put, List.setIfInBounds_toArray, List.set_cons_zero, List.set_cons_succ]
    refine wpAnyH_take (i := 6) (v := ?_) (by simp only [List.getElem?_toArray, List.getElem?_cons_succ, List.getElem?_cons_zero]; rfl) (by kernel_rfl) (by kernel_rfl) (by kernel_rfl) (by exact fun _ _ _ h => h) (Or.inl ⟨by rfl, ?_⟩) (by assumption) ?_
    rotate_left
    · (intro w hSw; (try dsimp only at hSw); go_simp; try with_reducible rfl)
    try simp only [Act.put, List.setIfInBounds_toArray, List.set_cons_zero, List.set_cons_succ]
    refine wpAnyH_take (i := 7) (v := ?_) (by simp only [List.getElem?_toArray, List.getElem?_cons_succ, List.getElem?_cons_zero]; rfl) (by kernel_rfl) (by kernel_rfl) (by kernel_rfl) (by exact fun _ _ _ h => h) (Or.inl ⟨by rfl, ?_⟩) (by assumption) ?_
    rotate_left
    · (intro w hSw; (try dsimp only at hSw); go_simp; try with_reducible rfl)
    try simp only [Act.put, List.setIfInBounds_toArray, List.set_cons_zero, List.set_cons_succ]
    refine wpAnyH_ready (rs := [8, 9]) (by kernel_rfl) (by simp) ?_
    refine AllReadyH.cons rfl (fun K hK => ?_) (AllReadyH.cons rfl (fun K hK => ?_) AllReadyH.nil)
    · go_simp
      try dsimp only
      refine hK.out _ _ ?_ (fun hHeld => ?_)
      · ((try dsimp only); (go_split_ands; refine bkeepS ?_; first | exact (Below.refl _ _).drew | exact (al _ _).drew | exact (al2 _ _ _).drew))
      clear hK K
      refine wpAnyH_ready (rs := [9]) (by kernel_rfl) (by simp) ?_
      refine AllReadyH.cons rfl (fun K hK => ?_) AllReadyH.nil
      go_simp
      try dsimp only
      refine hK.out _ _ ?_ (fun hHeld => ?_)
      · ((try dsimp only); (go_split_ands; refine bkeepS ?_; first | exact (Below.refl _ _).drew | exact (al _ _).drew | exact (al2 _ _ _).drew))
      clear hK K
      refine wpAnyH_ready (rs := [10]) (by kernel_rfl) (by simp) ?_
      refine AllReadyH.cons rfl (fun K hK => ?_) AllReadyH.nil
      go_simp
      try dsimp only
      refine hK.out _ _ ?_ (fun hHeld => ?_)
      · ((try dsimp only); (go_split_ands; refine bkeepS ?_; first | exact (Below.refl _ _).drew | exact (al _ _).drew | exact (al2 _ _ _).drew))
      clear hK K
      refine wpAnyH_ready (rs := [11]) (by kernel_rfl) (by simp) ?_
      refine AllReadyH.cons rfl (fun K hK => ?_) AllReadyH.nil
      go_simp
      try dsimp only
      refine hK.out _ _ ?_ (fun hHeld => ?_)
      · ((try dsimp only); (go_split_ands; refine bkeepS ?_; first | exact (Below.refl _ _).drew | exact (al _ _).drew | exact (al2 _ _ _).drew))
      clear hK K
      refine wpAnyH_done (by kernel_rfl) ?_ _
      go_wp2
      go_meet
      exact ⟨_, _, rfl, rfl, (two_boxes w1 (xo, xa, xb, xk) (yo, ya, yb, yk)).1, (two_boxes w1 (xo, xa, xb, xk) (yo, ya, yb, yk)).2, hA1.below ((al2 _ _ _).drew), (hl0.trans ((al2 _ _ _).mono hl0.size)).drew⟩
    · go_simp
      try dsimp only
      refine hK.out _ _ ?_ (fun hHeld => ?_)
      · ((try dsimp only); (go_split_ands; refine bkeepS ?_; first | exact (Below.refl _ _).drew | exact (al _ _).drew | exact (al2 _ _ _).drew))
      clear hK K
      refine wpAnyH_ready (rs := [8]) (by kernel_rfl) (by simp) ?_
      refine AllReadyH.cons rfl (fun K hK => ?_) AllReadyH.nil
      go_simp
      try dsimp only
      refine hK.out _ _ ?_ (fun hHeld => ?_)
      · ((try dsimp only); (go_split_ands; refine bkeepS ?_; first | exact (Below.refl _ _).drew | exact (al _ _).drew | exact (al2 _ _ _).drew))
      clear hK K
      refine wpAnyH_ready (rs := [10]) (by kernel_rfl) (by simp) ?_
      refine AllReadyH.cons rfl (fun K hK => ?_) AllReadyH.nil
      go_simp
      try dsimp only
      refine hK.out _ _ ?_ (fun hHeld => ?_)
      · ((try dsimp only); (go_split_ands; refine bkeepS ?_; first | exact (Below.refl _ _).drew | exact (al _ _).drew | exact (al2 _ _ _).drew))
      clear hK K
      refine wpAnyH_ready (rs := [11]) (by kernel_rfl) (by simp) ?_
      refine AllReadyH.cons rfl (fun K hK => ?_) AllReadyH.nil
      go_simp
      try dsimp only
      refine hK.out _ _ ?_ (fun hHeld => ?_)
      · ((try dsimp only); (go_split_ands; refine bkeepS ?_; first | exact (Below.refl _ _).drew | exact (al _ _).drew | exact (al2 _ _ _).drew))
      clear hK K
      refine wpAnyH_done (by kernel_rfl) ?_ _
      go_wp2
      go_meet
      exact ⟨_, _, rfl, rfl, (two_boxes w1 (yo, ya, yb, yk) (xo, xa, xb, xk)).2, (two_boxes w1 (yo, ya, yb, yk) (xo, xa, xb, xk)).1, hA1.below ((al2 _ _ _).drew), (hl0.trans ((al2 _ _ _).mono hl0.size)).drew⟩
  case rest =>
    obtain ⟨gx, gy, rfl, rfl, hX, hY, hAc, hBc⟩ := hcut
    have HA := hid hAc
    have hlt := hAc.lt
    have hns : ∀ g, blk (some ⟨b1, o1, none⟩) = some g → g < w.heap.size := fun g hg => by injection hg with hg; rw [← hg]; exact hbw
    have hne : some w.heap.size ≠ blk (some ⟨b1, o1, none⟩) := fun h => by have := hns _ h.symm; omega
    have HBB := hid hBc
    have hgx := hX.lt
    have hgy := hY.lt
    obtain ⟨x0, x1, x2, x3, x4⟩ := hX.cells
    obtain ⟨y0, y1, y2, y3, y4⟩ := hY.cells
    simp only at x0 x1 x2 x3 y0 y1 y2 y3
    clear hX hY x4 y4 hBc hAc hA1 hl0 hw1 p0 p1 p2 p3 r0 r1 r2 r3 hb1
    go_wp2_with fail
    try rw [hz]
    clear hz
    refine (rknown z nt _).mono ?_
    rintro e w3 ⟨rfl, rfl⟩
    obtain ⟨a0, a1, a2, a3, a4⟩ := HA.out.cells
    go_wp2
    (try simp only [Exit.inBlock, Exit.then])
    refine bodyPost_ret (results_atom3 rfl _ _ rfl (HA.out.put _ _ _ _)) rfl ?_
    exact AtAt.box HBB.out (Nat.le_refl _) hlt hns (HK.out _ HBB.out _ (Below.refl _ _) _) _ _ _ _

set_option maxHeartbeats 6400000 in
set_option maxRecDepth 100000 in
theorem rmakeA_bits (nt : Bool) (base n c a b : Nat) (s : Option Addr) (L : List TM.N) (hn : n < 65536) (h1 : TM.Row L) (h2 : TM.Once L) (h3 : ∀ x ∈ L, TM.okN x) (ha : a < n) (hb : b < n) (xo xa xb xk yo ya yb yk : Int) (hx : TM.nat0 L a = (xo, xa, xb, xk)) (hy : TM.nat0 L b = (yo, ya, yb, yk)) (w : World) (hO : OwnN w base s n c L) (hbase : base ≤ w.heap.size) (hxo : xo ≠ 1) (hyo : yo ≠ 1) (hab : a = b) (B : Nat) (t : TM.At) (HR : ∀ (s1 : Option Addr) (n1 c1 : Nat) (L1 : List TM.N) (q1 : Nat) W, OwnN W base s1 n1 c1 L1 → base ≤ W.heap.size → TM.Made L L1 (.num 0) q1 → L1.length ≤ L.length + 1 → Calls Try.prog 20 #[.slice s1 n1 c1, .int .i64 16, .int .i64 a, .int .i64 ((q1 : Nat) : Int), .bool (!nt)] W fun e w' => AtAt base W s1 L1 t B e w') :
    Calls Try.prog 20 #[.slice s n c, .int .i64 64, .int .i64 a, .int .i64 b, .bool nt] w fun e w' => AtAt base w s L t (1 + B) e w' := by
  have hl := hO.len
  have q1 : (xo == 1) = false := by rw [beq_eq_false_iff_ne]; exact hxo
  have q2 : (yo == 1) = false := by rw [beq_eq_false_iff_ne]; exact hyo
  have q3 : ((a : Int) == (b : Int)) = true := by rw [beq_iff_eq]; omega
  have HRR := hid HR
  have HN := hid (fun W (h : OwnN W base s n c L) (hb : base ≤ W.heap.size) => rnumber base n c s L 0 (by unfold TM.W32; omega) (by omega) h1 h2 h3 W h hb)
  have HO := hid (And.intro hO hbase)
  obtain ⟨b1, o1, rfl, hly⟩ := hO.lies.ly (by omega)
  rw [TM.nat0_eq (by omega)] at hx hy
  have i1 : (a : Int) < (n : Int) := by omega
  have i2 : (b : Int) < (n : Int) := by omega
  obtain ⟨w1, hw1⟩ : ∃ w1, w.alloc (.cells #[.int .i64 0, .int .i64 0, .int .i64 0, .bool false] 24) = w1 := ⟨_, rfl⟩
  have hl0 := al w (.cells #[.int .i64 0, .int .i64 0, .int .i64 0, .bool false] 24)
  have hA1 := AAt.new w 0 0 0 false
  have hbw := hly.1
  rw [hw1] at hl0 hA1
  have hly1 := hly.below hl0
  obtain ⟨p0, p1, p2, p3⟩ := hly1.2 a (by omega)
  obtain ⟨r0, r1, r2, r3⟩ := hly1.2 b (by omega)
  rw [hx] at p0 p1 p2 p3
  rw [hy] at r0 r1 r2 r3
  simp only at p0 p1 p2 p3 r0 r1 r2 r3
  have hb1 := hly1.1
  clear hO hbase h1 h2 h3 hx hy hly hl hly1 hxo hyo HR hab
  go_enter Try.func20, Try.ntmps20
  go_upto_region 1 with fail
  go_cut [13, 14] (fun s13 s14 wx => ∃ gx gy : Nat, s13 = .pointer (some ⟨gx, 0, none⟩) ∧ s14 = .pointer (some ⟨gy, 0, none⟩) ∧ NAt wx gx (xo, xa, xb, xk) ∧ NAt wx gy (yo, ya, yb, yk) ∧ AAt wx w.heap.size 0 0 0 false ∧ Below w.heap.size w wx)
  case first =>
    refine wp_region_held_drew (S := fun w' => (∀ b o, b < w1.heap.size → w'.cell? ⟨b, o, none⟩ = w1.cell? ⟨b, o, none⟩) ∧ Below w1.heap.size w1 w') (by kernel_rfl) ?_ (fun hHeld => ?_)
    · ((try dsimp only); (go_split_ands; refine bkeepS ?_; first | exact (Below.refl _ _).drew | assumption | exact Below.trans (by assumption) (Below.mono (by assumption) (Below.size (by assumption)))))
    change wpAnyH _ _ _ _ _ 12 #[false, false, false, false, false, false, false, false, false, false, false, false] _ _
    refine wpAnyH_take (i := 0) (v := ?_) (by simp only [List.getElem?_toArray, List.getElem?_cons_zero]; rfl) (by kernel_rfl) (by kernel_rfl) (by kernel_rfl) (by exact fun _ _ _ h => h) (Or.inl ⟨by rfl, ?_⟩) (by assumption) ?_
    rotate_left
    · (intro w hSw; (try dsimp only at hSw); go_simp; try with_reducible rfl)
    try simp only [Act.put, List.setIfInBounds_toArray, List.set_cons_zero, List.set_cons_succ]
    refine wpAnyH_take (i := 1) (v := ?_) (by simp only [List.getElem?_toArray, List.getElem?_cons_succ, List.getElem?_cons_zero]; rfl) (by kernel_rfl) (by kernel_rfl) (by kernel_rfl) (by exact fun _ _ _ h => h) (Or.inl ⟨by rfl, ?_⟩) (by assumption) ?_
    rotate_left
    · (intro w hSw; (try dsimp only at hSw); go_simp; try with_reducible rfl)
    try simp only [Act.put, List.setIfInBounds_toArray, List.set_cons_zero, List.set_cons_succ]
    refine wpAnyH_take (i := 2) (v := ?_) (by simp only [List.getElem?_toArray, List.getElem?_cons_succ, List.getElem?_cons_zero]; rfl) (by kernel_rfl) (by kernel_rfl) (by kernel_rfl) (by exact fun _ _ _ h => h) (Or.inl ⟨by rfl, ?_⟩) (by assumption) ?_
    rotate_left
    · (intro w hSw; (try dsimp only at hSw); go_simp; try with_reducible rfl)
    try simp only [Act.put, List.setIfInBounds_toArray, List.set_cons_zero, List.set_cons_succ]
    refine wpAnyH_take (i := 3) (v := ?_) (by simp only [List.getElem?_toArray, List.getElem?_cons_succ, List.getElem?_cons_zero]; rfl) (by kernel_rfl) (by kernel_rfl) (by kernel_rfl) (by exact fun _ _ _ h => h) (Or.inl ⟨by rfl, ?_⟩) (by assumption) ?_
    rotate_left
    · (intro w hSw; (try dsimp only at hSw); go_simp; try with_reducible rfl)
    try simp only [Act.put, List.setIfInBounds_toArray, List.set_cons_zero, List.set_cons_succ]
    refine wpAnyH_take (i := 4) (v := ?_) (by simp only [List.getElem?_toArray, List.getElem?_cons_succ, List.getElem?_cons_zero]; rfl) (by kernel_rfl) (by kernel_rfl) (by kernel_rfl) (by exact fun _ _ _ h => h) (Or.inl ⟨by rfl, ?_⟩) (by assumption) ?_
    rotate_left
    · (intro w hSw; (try dsimp only at hSw); go_simp; try with_reducible rfl)
    try simp only [Act.put, List.setIfInBounds_toArray, List.set_cons_zero, List.set_cons_succ]
    refine wpAnyH_take (i := 5) (v := ?_) (by simp only [List.getElem?_toArray, List.getElem?_cons_succ, List.getElem?_cons_zero]; rfl) (by kernel_rfl) (by kernel_rfl) (by kernel_rfl) (by exact fun _ _ _ h => h) (Or.inl ⟨by rfl, ?_⟩) (by assumption) ?_
    rotate_left
    · (intro w hSw; (try dsimp only at hSw); go_simp; try with_reducible rfl)
    try simp only [Act.put, List.setIfInBounds_toArray, List.set_cons_zero, List.set_cons_succ]
    refine wpAnyH_take (i := 6) (v := ?_) (by simp only [List.getElem?_toArray, List.getElem?_cons_succ, List.getElem?_cons_zero]; rfl) (by kernel_rfl) (by kernel_rfl) (by kernel_rfl) (by exact fun _ _ _ h => h) (Or.inl ⟨by rfl, ?_⟩) (by assumption) ?_
    rotate_left
    · (intro w hSw; (try dsimp only at hSw); go_simp; try with_reducible rfl)
    try simp only [Act.put, List.setIfInBounds_toArray, List.set_cons_zero, List.set_cons_succ]
    refine wpAnyH_take (i := 7) (v := ?_) (by simp only [List.getElem?_toArray, List.getElem?_cons_succ, List.getElem?_cons_zero]; rfl) (by kernel_rfl) (by kernel_rfl) (by kernel_rfl) (by exact fun _ _ _ h => h) (Or.inl ⟨by rfl, ?_⟩) (by assumption) ?_
    rotate_left
    · (intro w hSw; (try dsimp only at hSw); go_simp; try with_reducible rfl)
    try simp only [Act.put, List.setIfInBounds_toArray, List.set_cons_zero, List.set_cons_succ]
    refine wpAnyH_ready (rs := [8, 9]) (by kernel_rfl) (by simp) ?_
    refine AllReadyH.cons rfl (fun K hK => ?_) (AllReadyH.cons rfl (fun K hK => ?_) AllReadyH.nil)
    · go_simp
      try dsimp only
      refine hK.out _ _ ?_ (fun hHeld => ?_)
      · ((try dsimp only); (go_split_ands; refine bkeepS ?_; first | exact (Below.refl _ _).drew | exact (al _ _).drew | exact (al2 _ _ _).drew))
      clear hK K
      refine wpAnyH_ready (rs := [9]) (by kernel_rfl) (by simp) ?_
      refine AllReadyH.cons rfl (fun K hK => ?_) AllReadyH.nil
      go_simp
      try dsimp only
      refine hK.out _ _ ?_ (fun hHeld => ?_)
      · ((try dsimp only); (go_split_ands; refine bkeepS ?_; first | exact (Below.refl _ _).drew | exact (al _ _).drew | exact (al2 _ _ _).drew))
      clear hK K
      refine wpAnyH_ready (rs := [10]) (by kernel_rfl) (by simp) ?_
      refine AllReadyH.cons rfl (fun K hK => ?_) AllReadyH.nil
      go_simp
      try dsimp only
      refine hK.out _ _ ?_ (fun hHeld => ?_)
      · ((try dsimp only); (go_split_ands; refine bkeepS ?_; first | exact (Below.refl _ _).drew | exact (al _ _).drew | exact (al2 _ _ _).drew))
      clear hK K
      refine wpAnyH_ready (rs := [11]) (by kernel_rfl) (by simp) ?_
      refine AllReadyH.cons rfl (fun K hK => ?_) AllReadyH.nil
      go_simp
      try dsimp only
      refine hK.out _ _ ?_ (fun hHeld => ?_)
      · ((try dsimp only); (go_split_ands; refine bkeepS ?_; first | exact (Below.refl _ _).drew | exact (al _ _).drew | exact (al2 _ _ _).drew))
      clear hK K
      refine wpAnyH_done (by kernel_rfl) ?_ _
      go_wp2
      go_meet
      exact ⟨_, _, rfl, rfl, (two_boxes w1 (xo, xa, xb, xk) (yo, ya, yb, yk)).1, (two_boxes w1 (xo, xa, xb, xk) (yo, ya, yb, yk)).2, hA1.below ((al2 _ _ _).drew), (hl0.trans ((al2 _ _ _).mono hl0.size)).drew⟩
    · go_simp
      try dsimp only
      refine hK.out _ _ ?_ (fun hHeld => ?_)
      · ((try dsimp only); (go_split_ands; refine bkeepS ?_; first | exact (Below.refl _ _).drew | exact (al _ _).drew | exact (al2 _ _ _).drew))
      clear hK K
      refine wpAnyH_ready (rs := [8]) (by kernel_rfl) (by simp) ?_
      refine AllReadyH.cons rfl (fun K hK => ?_) AllReadyH.nil
      go_simp
      try dsimp only
      refine hK.out _ _ ?_ (fun hHeld => ?_)
      · ((try dsimp only); (go_split_ands; refine bkeepS ?_; first | exact (Below.refl _ _).drew | exact (al _ _).drew | exact (al2 _ _ _).drew))
      clear hK K
      refine wpAnyH_ready (rs := [10]) (by kernel_rfl) (by simp) ?_
      refine AllReadyH.cons rfl (fun K hK => ?_) AllReadyH.nil
      go_simp
      try dsimp only
      refine hK.out _ _ ?_ (fun hHeld => ?_)
      · ((try dsimp only); (go_split_ands; refine bkeepS ?_; first | exact (Below.refl _ _).drew | exact (al _ _).drew | exact (al2 _ _ _).drew))
      clear hK K
      refine wpAnyH_ready (rs := [11]) (by kernel_rfl) (by simp) ?_
      refine AllReadyH.cons rfl (fun K hK => ?_) AllReadyH.nil
      go_simp
      try dsimp only
      refine hK.out _ _ ?_ (fun hHeld => ?_)
      · ((try dsimp only); (go_split_ands; refine bkeepS ?_; first | exact (Below.refl _ _).drew | exact (al _ _).drew | exact (al2 _ _ _).drew))
      clear hK K
      refine wpAnyH_done (by kernel_rfl) ?_ _
      go_wp2
      go_meet
      exact ⟨_, _, rfl, rfl, (two_boxes w1 (yo, ya, yb, yk) (xo, xa, xb, xk)).2, (two_boxes w1 (yo, ya, yb, yk) (xo, xa, xb, xk)).1, hA1.below ((al2 _ _ _).drew), (hl0.trans ((al2 _ _ _).mono hl0.size)).drew⟩
  case rest =>
    obtain ⟨gx, gy, rfl, rfl, hX, hY, hAc, hBc⟩ := hcut
    have HA := hid hAc
    have hlt := hAc.lt
    have hns : ∀ g, blk (some ⟨b1, o1, none⟩) = some g → g < w.heap.size := fun g hg => by injection hg with hg; rw [← hg]; exact hbw
    have hne : some w.heap.size ≠ blk (some ⟨b1, o1, none⟩) := fun h => by have := hns _ h.symm; omega
    have HBB := hid hBc
    have hgx := hX.lt
    have hgy := hY.lt
    obtain ⟨x0, x1, x2, x3, x4⟩ := hX.cells
    obtain ⟨y0, y1, y2, y3, y4⟩ := hY.cells
    simp only at x0 x1 x2 x3 y0 y1 y2 y3
    clear hX hY x4 y4 hBc hAc hA1 hl0 hw1 p0 p1 p2 p3 r0 r1 r2 r3 hb1
    go_wp2_with fail
    refine (HN.out _ (HO.out.1.below HBB.out) (Nat.le_trans HO.out.2 HBB.out.size)).mono ?_
    rintro e w3 ⟨s1, n1, c1, L1, q1, rfl, g1, g2, g3, g4, g5, g6⟩
    have HG := hid (And.intro g1 (And.intro g2 (And.intro g3 (And.intro g4 (And.intro g5 g6)))))
    clear g1 g2 g3 g4 g5 g6 HN x0 x1 x2 x3 y0 y1 y2 y3
    go_wp2_with fail
    refine (HRR.out _ _ _ _ _ _ HG.out.1 (Nat.le_trans HO.out.2 (Nat.le_trans HBB.out.size HG.out.2.1.size)) HG.out.2.2.2.2.1 HG.out.2.2.2.2.2).mono ?_
    rintro e w4 ⟨s', n', c', L', o, p, q, k, rfl, f1⟩
    have HF := hid f1
    have h9 := AtAt.comp (HO.out.1.below HBB.out) HG.out.1 HG.out.2.1 HG.out.2.2.1 HG.out.2.2.2.1 HG.out.2.2.2.2.1 HG.out.2.2.2.2.2 ⟨s', n', c', L', o, p, q, k, rfl, HF.out⟩
    have HA2 := hid ((HA.out.grown HG.out.2.1 hne).grown f1.2.1 (fun h => by
      rcases HG.out.2.2.1 _ h.symm with h | h
      · exact hne h.symm
      · omega))
    have H9 := hid h9
    obtain ⟨a0, a1, a2, a3, a4⟩ := HA2.out.cells
    clear f1 HRR h9
    go_wp2
    (try simp only [Exit.inBlock, Exit.then])
    refine bodyPost_ret (results_atom3 rfl _ _ rfl (HA2.out.put _ _ _ _)) rfl ?_
    exact AtAt.box HBB.out (Nat.le_refl _) hlt hns (H9.out) _ _ _ _
end Go.Proofs.Ytkeigicobcjleaa.TB
