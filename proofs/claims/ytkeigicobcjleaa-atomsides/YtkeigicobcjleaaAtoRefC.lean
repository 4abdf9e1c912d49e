/-
  The reference's number of layer 13, as walks over the Go text: what it tells, over what it hands on.
-/
import Derived.Test.YtkeigicobcjleaaAtoRefB
namespace Go.Proofs.Ytkeigicobcjleaa.TB
open Go.ChangeShapes Go.WideShapes Go.ChangeAt Go.RowKit
open Go.Sort hiding Below
set_option linter.unusedVariables false
set_option maxRecDepth 100000

set_option maxHeartbeats 6400000 in
set_option maxRecDepth 100000 in
theorem rnum_gt_all (nt : Bool) (base n c a : Nat) (s : Option Addr) (L : List TM.N) (k : Int) (hk : TM.W32 k) (hn : n < 65536) (h1 : TM.Row L) (h2 : TM.Once L) (h3 : ∀ x ∈ L, TM.okN x) (ha : a < n) (w : World) (hO : OwnN w base s n c L) (hbase : base ≤ w.heap.size) (hka : k = 4294967295) :
    Calls Try.prog 42 #[.slice s n c, .int .i64 32, .int .i64 a, .int .u32 k, .bool nt] w fun e w' => AtAt base w s L (TM.knB false nt) 0 e w' := by
  have hl := hO.len
  have HK := hid (fun W (h : Below w.heap.size w W) x => AtAt.kn (hO.below h) (Below.refl _ _) h1 h2 h3 x nt 0)
  subst hka
  have HO := hid (And.intro hO hbase)
  obtain ⟨b1, o1, rfl, hly⟩ := hO.lies.ly (by omega)
  have i1 : (a : Int) < (n : Int) := by omega
  obtain ⟨w1, hw1⟩ : ∃ w1, w.alloc (.cells #[.int .i64 0, .int .i64 0, .int .i64 0, .bool false] 24) = w1 := ⟨_, rfl⟩
  have hl0 := al w (.cells #[.int .i64 0, .int .i64 0, .int .i64 0, .bool false] 24)
  have hA1 := AAt.new w 0 0 0 false
  have hbw := hly.1
  rw [hw1] at hl0 hA1
  have hly1 := hly.below hl0
  have hns : ∀ g, blk (some ⟨b1, o1, none⟩) = some g → g < w.heap.size := fun g hg => by injection hg with hg; rw [← hg]; exact hbw
  have hne : some w.heap.size ≠ blk (some ⟨b1, o1, none⟩) := fun h => by have := hns _ h.symm; omega
  have HBB := hid hl0
  have HA := hid hA1
  have hlt := hA1.lt
  obtain ⟨a0, a1, a2, a3, a4⟩ := HA.out.cells
  clear hO hbase h1 h2 h3 hly hl hly1 hl0 hA1
  go_enter Try.func42, Try.ntmps42
  go_wp2_with fail
  refine (rknown false nt _).mono ?_
  rintro e w3 ⟨rfl, rfl⟩
  go_wp2
  (try simp only [Exit.inBlock, Exit.then])
  refine bodyPost_ret (results_atom3 rfl _ _ rfl (HA.out.put _ _ _ _)) rfl ?_
  exact AtAt.box HBB.out (Nat.le_refl _) hlt hns (HK.out _ HBB.out false) _ _ _ _

set_option maxHeartbeats 6400000 in
set_option maxRecDepth 100000 in
theorem rnum_set_0 (nt : Bool) (base n c a : Nat) (s : Option Addr) (L : List TM.N) (k : Int) (hk : TM.W32 k) (hn : n < 65536) (h1 : TM.Row L) (h2 : TM.Once L) (h3 : ∀ x ∈ L, TM.okN x) (ha : a < n) (w : World) (hO : OwnN w base s n c L) (hbase : base ≤ w.heap.size) (hk0 : k = 0) :
    Calls Try.prog 42 #[.slice s n c, .int .i64 64, .int .i64 a, .int .u32 k, .bool nt] w fun e w' => AtAt base w s L (TM.knB false nt) 0 e w' := by
  have hl := hO.len
  have HK := hid (fun W (h : Below w.heap.size w W) x => AtAt.kn (hO.below h) (Below.refl _ _) h1 h2 h3 x nt 0)
  subst hk0
  have HO := hid (And.intro hO hbase)
  obtain ⟨b1, o1, rfl, hly⟩ := hO.lies.ly (by omega)
  have i1 : (a : Int) < (n : Int) := by omega
  obtain ⟨w1, hw1⟩ : ∃ w1, w.alloc (.cells #[.int .i64 0, .int .i64 0, .int .i64 0, .bool false] 24) = w1 := ⟨_, rfl⟩
  have hl0 := al w (.cells #[.int .i64 0, .int .i64 0, .int .i64 0, .bool false] 24)
  have hA1 := AAt.new w 0 0 0 false
  have hbw := hly.1
  rw [hw1] at hl0 hA1
  have hly1 := hly.below hl0
  have hns : ∀ g, blk (some ⟨b1, o1, none⟩) = some g → g < w.heap.size := fun g hg => by injection hg with hg; rw [← hg]; exact hbw
  have hne : some w.heap.size ≠ blk (some ⟨b1, o1, none⟩) := fun h => by have := hns _ h.symm; omega
  have HBB := hid hl0
  have HA := hid hA1
  have hlt := hA1.lt
  obtain ⟨a0, a1, a2, a3, a4⟩ := HA.out.cells
  clear hO hbase h1 h2 h3 hly hl hly1 hl0 hA1
  go_enter Try.func42, Try.ntmps42
  go_wp2_with fail
  refine (rknown false nt _).mono ?_
  rintro e w3 ⟨rfl, rfl⟩
  go_wp2
  (try simp only [Exit.inBlock, Exit.then])
  refine bodyPost_ret (results_atom3 rfl _ _ rfl (HA.out.put _ _ _ _)) rfl ?_
  exact AtAt.box HBB.out (Nat.le_refl _) hlt hns (HK.out _ HBB.out false) _ _ _ _

set_option maxHeartbeats 6400000 in
set_option maxRecDepth 100000 in
theorem rnum_ge_0 (nt : Bool) (base n c a : Nat) (s : Option Addr) (L : List TM.N) (k : Int) (hk : TM.W32 k) (hn : n < 65536) (h1 : TM.Row L) (h2 : TM.Once L) (h3 : ∀ x ∈ L, TM.okN x) (ha : a < n) (w : World) (hO : OwnN w base s n c L) (hbase : base ≤ w.heap.size) (hk0 : k = 0) :
    Calls Try.prog 42 #[.slice s n c, .int .i64 48, .int .i64 a, .int .u32 k, .bool nt] w fun e w' => AtAt base w s L (TM.knB true nt) 0 e w' := by
  have hl := hO.len
  have HK := hid (fun W (h : Below w.heap.size w W) x => AtAt.kn (hO.below h) (Below.refl _ _) h1 h2 h3 x nt 0)
  subst hk0
  have HO := hid (And.intro hO hbase)
  obtain ⟨b1, o1, rfl, hly⟩ := hO.lies.ly (by omega)
  have i1 : (a : Int) < (n : Int) := by omega
  obtain ⟨w1, hw1⟩ : ∃ w1, w.alloc (.cells #[.int .i64 0, .int .i64 0, .int .i64 0, .bool false] 24) = w1 := ⟨_, rfl⟩
  have hl0 := al w (.cells #[.int .i64 0, .int .i64 0, .int .i64 0, .bool false] 24)
  have hA1 := AAt.new w 0 0 0 false
  have hbw := hly.1
  rw [hw1] at hl0 hA1
  have hly1 := hly.below hl0
  have hns : ∀ g, blk (some ⟨b1, o1, none⟩) = some g → g < w.heap.size := fun g hg => by injection hg with hg; rw [← hg]; exact hbw
  have hne : some w.heap.size ≠ blk (some ⟨b1, o1, none⟩) := fun h => by have := hns _ h.symm; omega
  have HBB := hid hl0
  have HA := hid hA1
  have hlt := hA1.lt
  obtain ⟨a0, a1, a2, a3, a4⟩ := HA.out.cells
  clear hO hbase h1 h2 h3 hly hl hly1 hl0 hA1
  go_enter Try.func42, Try.ntmps42
  go_wp2_with fail
  refine (rknown true nt _).mono ?_
  rintro e w3 ⟨rfl, rfl⟩
  go_wp2
  (try simp only [Exit.inBlock, Exit.then])
  refine bodyPost_ret (results_atom3 rfl _ _ rfl (HA.out.put _ _ _ _)) rfl ?_
  exact AtAt.box HBB.out (Nat.le_refl _) hlt hns (HK.out _ HBB.out true) _ _ _ _

set_option maxHeartbeats 6400000 in
set_option maxRecDepth 100000 in
theorem rnum_gt_0 (nt : Bool) (base n c a : Nat) (s : Option Addr) (L : List TM.N) (k : Int) (hk : TM.W32 k) (hn : n < 65536) (h1 : TM.Row L) (h2 : TM.Once L) (h3 : ∀ x ∈ L, TM.okN x) (ha : a < n) (w : World) (hO : OwnN w base s n c L) (hbase : base ≤ w.heap.size) (B : Nat) (t : TM.At) (HR : ∀ (s1 : Option Addr) (n1 c1 : Nat) (L1 : List TM.N) (q1 : Nat) W, OwnN W base s1 n1 c1 L1 → base ≤ W.heap.size → TM.Made L L1 (.num 0) q1 → L1.length ≤ L.length + 1 → Calls Try.prog 20 #[.slice s1 n1 c1, .int .i64 16, .int .i64 a, .int .i64 ((q1 : Nat) : Int), .bool (!nt)] W fun e w' => AtAt base W s1 L1 t B e w') (hk0 : k = 0) :
    Calls Try.prog 42 #[.slice s n c, .int .i64 32, .int .i64 a, .int .u32 k, .bool nt] w fun e w' => AtAt base w s L t (1 + B) e w' := by
  have hl := hO.len
  subst hk0
  have HRR := hid HR
  have HN := hid (fun W (h : OwnN W base s n c L) (hb : base ≤ W.heap.size) => rnumber base n c s L 0 (by unfold TM.W32; omega) (by omega) h1 h2 h3 W h hb)
  have HO := hid (And.intro hO hbase)
  obtain ⟨b1, o1, rfl, hly⟩ := hO.lies.ly (by omega)
  have i1 : (a : Int) < (n : Int) := by omega
  obtain ⟨w1, hw1⟩ : ∃ w1, w.alloc (.cells #[.int .i64 0, .int .i64 0, .int .i64 0, .bool false] 24) = w1 := ⟨_, rfl⟩
  have hl0 := al w (.cells #[.int .i64 0, .int .i64 0, .int .i64 0, .bool false] 24)
  have hA1 := AAt.new w 0 0 0 false
  have hbw := hly.1
  rw [hw1] at hl0 hA1
  have hly1 := hly.below hl0
  have hns : ∀ g, blk (some ⟨b1, o1, none⟩) = some g → g < w.heap.size := fun g hg => by injection hg with hg; rw [← hg]; exact hbw
  have hne : some w.heap.size ≠ blk (some ⟨b1, o1, none⟩) := fun h => by have := hns _ h.symm; omega
  have HBB := hid hl0
  have HA := hid hA1
  have hlt := hA1.lt
  obtain ⟨a0, a1, a2, a3, a4⟩ := HA.out.cells
  clear hO hbase h1 h2 h3 hly hl hly1 hl0 hA1 HR
  go_enter Try.func42, Try.ntmps42
  go_wp2_with fail
  refine (HN.out _ (HO.out.1.below HBB.out) (Nat.le_trans HO.out.2 HBB.out.size)).mono ?_
  rintro e w3 ⟨s1, n1, c1, L1, q1, rfl, g1, g2, g3, g4, g5, g6⟩
  have HG := hid (And.intro g1 (And.intro g2 (And.intro g3 (And.intro g4 (And.intro g5 g6)))))
  have HA3 := hid (HA.out.grown g2 hne)
  clear g1 g2 g3 g4 g5 g6 HN a0 a1 a2 a3 a4
  go_wp2_with fail
  refine (HRR.out _ _ _ _ _ _ HG.out.1 (Nat.le_trans HO.out.2 (Nat.le_trans HBB.out.size HG.out.2.1.size)) HG.out.2.2.2.2.1 HG.out.2.2.2.2.2).mono ?_
  rintro e w4 ⟨s', n', c', L', o, p, q, k', rfl, f1⟩
  have HF := hid f1
  have h9 := AtAt.comp (HO.out.1.below HBB.out) HG.out.1 HG.out.2.1 HG.out.2.2.1 HG.out.2.2.2.1 HG.out.2.2.2.2.1 HG.out.2.2.2.2.2 ⟨s', n', c', L', o, p, q, k', rfl, HF.out⟩
  have HA4 := hid (HA3.out.grown f1.2.1 (fun h => by
    rcases HG.out.2.2.1 _ h.symm with h | h
    · exact hne h.symm
    · omega))
  have H9 := hid h9
  obtain ⟨a0, a1, a2, a3, a4⟩ := HA4.out.cells
  clear f1 HRR h9
  go_wp2
  (try simp only [Exit.inBlock, Exit.then])
  refine bodyPost_ret (results_atom3 rfl _ _ rfl (HA4.out.put _ _ _ _)) rfl ?_
  exact AtAt.box HBB.out (Nat.le_refl _) hlt hns (H9.out) _ _ _ _

set_option maxHeartbeats 6400000 in
set_option maxRecDepth 100000 in
theorem rnum_set_all (nt : Bool) (base n c a : Nat) (s : Option Addr) (L : List TM.N) (k : Int) (hk : TM.W32 k) (hn : n < 65536) (h1 : TM.Row L) (h2 : TM.Once L) (h3 : ∀ x ∈ L, TM.okN x) (ha : a < n) (w : World) (hO : OwnN w base s n c L) (hbase : base ≤ w.heap.size) (B : Nat) (t : TM.At) (HR : ∀ (s1 : Option Addr) (n1 c1 : Nat) (L1 : List TM.N) (q1 : Nat) W, OwnN W base s1 n1 c1 L1 → base ≤ W.heap.size → TM.Made L L1 (.num 0) q1 → L1.length ≤ L.length + 1 → Calls Try.prog 20 #[.slice s1 n1 c1, .int .i64 16, .int .i64 a, .int .i64 ((q1 : Nat) : Int), .bool (!nt)] W fun e w' => AtAt base W s1 L1 t B e w') (hka : k = 4294967295) :
    Calls Try.prog 42 #[.slice s n c, .int .i64 64, .int .i64 a, .int .u32 k, .bool nt] w fun e w' => AtAt base w s L t (1 + B) e w' := by
  have hl := hO.len
  subst hka
  have HRR := hid HR
  have HN := hid (fun W (h : OwnN W base s n c L) (hb : base ≤ W.heap.size) => rnumber base n c s L 0 (by unfold TM.W32; omega) (by omega) h1 h2 h3 W h hb)
  have HO := hid (And.intro hO hbase)
  obtain ⟨b1, o1, rfl, hly⟩ := hO.lies.ly (by omega)
  have i1 : (a : Int) < (n : Int) := by omega
  obtain ⟨w1, hw1⟩ : ∃ w1, w.alloc (.cells #[.int .i64 0, .int .i64 0, .int .i64 0, .bool false] 24) = w1 := ⟨_, rfl⟩
  have hl0 := al w (.cells #[.int .i64 0, .int .i64 0, .int .i64 0, .bool false] 24)
  have hA1 := AAt.new w 0 0 0 false
  have hbw := hly.1
  rw [hw1] at hl0 hA1
  have hly1 := hly.below hl0
  have hns : ∀ g, blk (some ⟨b1, o1, none⟩) = some g → g < w.heap.size := fun g hg => by injection hg with hg; rw [← hg]; exact hbw
  have hne : some w.heap.size ≠ blk (some ⟨b1, o1, none⟩) := fun h => by have := hns _ h.symm; omega
  have HBB := hid hl0
  have HA := hid hA1
  have hlt := hA1.lt
  obtain ⟨a0, a1, a2, a3, a4⟩ := HA.out.cells
  clear hO hbase h1 h2 h3 hly hl hly1 hl0 hA1 HR
  go_enter Try.func42, Try.ntmps42
  go_wp2_with fail
  refine (HN.out _ (HO.out.1.below HBB.out) (Nat.le_trans HO.out.2 HBB.out.size)).mono ?_
  rintro e w3 ⟨s1, n1, c1, L1, q1, rfl, g1, g2, g3, g4, g5, g6⟩
  have HG := hid (And.intro g1 (And.intro g2 (And.intro g3 (And.intro g4 (And.intro g5 g6)))))
  have HA3 := hid (HA.out.grown g2 hne)
  clear g1 g2 g3 g4 g5 g6 HN a0 a1 a2 a3 a4
  go_wp2_with fail
  refine (HRR.out _ _ _ _ _ _ HG.out.1 (Nat.le_trans HO.out.2 (Nat.le_trans HBB.out.size HG.out.2.1.size)) HG.out.2.2.2.2.1 HG.out.2.2.2.2.2).mono ?_
  rintro e w4 ⟨s', n', c', L', o, p, q, k', rfl, f1⟩
  have HF := hid f1
  have h9 := AtAt.comp (HO.out.1.below HBB.out) HG.out.1 HG.out.2.1 HG.out.2.2.1 HG.out.2.2.2.1 HG.out.2.2.2.2.1 HG.out.2.2.2.2.2 ⟨s', n', c', L', o, p, q, k', rfl, HF.out⟩
  have HA4 := hid (HA3.out.grown f1.2.1 (fun h => by
    rcases HG.out.2.2.1 _ h.symm with h | h
    · exact hne h.symm
    · omega))
  have H9 := hid h9
  obtain ⟨a0, a1, a2, a3, a4⟩ := HA4.out.cells
  clear f1 HRR h9
  go_wp2
  (try simp only [Exit.inBlock, Exit.then])
  refine bodyPost_ret (results_atom3 rfl _ _ rfl (HA4.out.put _ _ _ _)) rfl ?_
  exact AtAt.box HBB.out (Nat.le_refl _) hlt hns (H9.out) _ _ _ _

set_option maxHeartbeats 6400000 in
set_option maxRecDepth 100000 in
theorem rnum_ge (nt : Bool) (base n c a : Nat) (s : Option Addr) (L : List TM.N) (k : Int) (hk : TM.W32 k) (hn : n < 65536) (h1 : TM.Row L) (h2 : TM.Once L) (h3 : ∀ x ∈ L, TM.okN x) (ha : a < n) (w : World) (hO : OwnN w base s n c L) (hbase : base ≤ w.heap.size) (B : Nat) (t : TM.At) (HR : ∀ (s1 : Option Addr) (n1 c1 : Nat) (L1 : List TM.N) (q1 : Nat) W, OwnN W base s1 n1 c1 L1 → base ≤ W.heap.size → TM.Made L L1 (.num (k - 1)) q1 → L1.length ≤ L.length + 1 → Calls Try.prog 20 #[.slice s1 n1 c1, .int .i64 32, .int .i64 a, .int .i64 ((q1 : Nat) : Int), .bool nt] W fun e w' => AtAt base W s1 L1 t B e w') (hk0 : k ≠ 0) :
    Calls Try.prog 42 #[.slice s n c, .int .i64 48, .int .i64 a, .int .u32 k, .bool nt] w fun e w' => AtAt base w s L t (1 + B) e w' := by
  have hl := hO.len
  have q0 : (k == 0) = false := beq_eq_false_iff_ne.2 hk0
  have hwr : IntKind.wrap .u32 (k - 1) = k - 1 := by
    have := hk.1; have := hk.2
    rw [IntKind.wrap_u32]; omega
  have HRR := hid HR
  have HN := hid (fun W (h : OwnN W base s n c L) (hb : base ≤ W.heap.size) => rnumber base n c s L (k - 1) (by have := hk.1; have := hk.2; unfold TM.W32; omega) (by omega) h1 h2 h3 W h hb)
  have HO := hid (And.intro hO hbase)
  obtain ⟨b1, o1, rfl, hly⟩ := hO.lies.ly (by omega)
  have i1 : (a : Int) < (n : Int) := by omega
  obtain ⟨w1, hw1⟩ : ∃ w1, w.alloc (.cells #[.int .i64 0, .int .i64 0, .int .i64 0, .bool false] 24) = w1 := ⟨_, rfl⟩
  have hl0 := al w (.cells #[.int .i64 0, .int .i64 0, .int .i64 0, .bool false] 24)
  have hA1 := AAt.new w 0 0 0 false
  have hbw := hly.1
  rw [hw1] at hl0 hA1
  have hly1 := hly.below hl0
  have hns : ∀ g, blk (some ⟨b1, o1, none⟩) = some g → g < w.heap.size := fun g hg => by injection hg with hg; rw [← hg]; exact hbw
  have hne : some w.heap.size ≠ blk (some ⟨b1, o1, none⟩) := fun h => by have := hns _ h.symm; omega
  have HBB := hid hl0
  have HA := hid hA1
  have hlt := hA1.lt
  obtain ⟨a0, a1, a2, a3, a4⟩ := HA.out.cells
  clear hO hbase h1 h2 h3 hly hl hly1 hl0 hA1 HR hk0
  go_enter Try.func42, Try.ntmps42
  go_wp2_with fail
  refine (HN.out _ (HO.out.1.below HBB.out) (Nat.le_trans HO.out.2 HBB.out.size)).mono ?_
  rintro e w3 ⟨s1, n1, c1, L1, q1, rfl, g1, g2, g3, g4, g5, g6⟩
  have HG := hid (And.intro g1 (And.intro g2 (And.intro g3 (And.intro g4 (And.intro g5 g6)))))
  have HA3 := hid (HA.out.grown g2 hne)
  clear g1 g2 g3 g4 g5 g6 HN a0 a1 a2 a3 a4
  go_wp2_with fail
  refine (HRR.out _ _ _ _ _ _ HG.out.1 (Nat.le_trans HO.out.2 (Nat.le_trans HBB.out.size HG.out.2.1.size)) HG.out.2.2.2.2.1 HG.out.2.2.2.2.2).mono ?_
  rintro e w4 ⟨s', n', c', L', o, p, q, k', rfl, f1⟩
  have HF := hid f1
  have h9 := AtAt.comp (HO.out.1.below HBB.out) HG.out.1 HG.out.2.1 HG.out.2.2.1 HG.out.2.2.2.1 HG.out.2.2.2.2.1 HG.out.2.2.2.2.2 ⟨s', n', c', L', o, p, q, k', rfl, HF.out⟩
  have HA4 := hid (HA3.out.grown f1.2.1 (fun h => by
    rcases HG.out.2.2.1 _ h.symm with h | h
    · exact hne h.symm
    · omega))
  have H9 := hid h9
  obtain ⟨a0, a1, a2, a3, a4⟩ := HA4.out.cells
  clear f1 HRR h9
  go_wp2
  (try simp only [Exit.inBlock, Exit.then])
  refine bodyPost_ret (results_atom3 rfl _ _ rfl (HA4.out.put _ _ _ _)) rfl ?_
  exact AtAt.box HBB.out (Nat.le_refl _) hlt hns (H9.out) _ _ _ _

set_option maxHeartbeats 6400000 in
set_option maxRecDepth 100000 in
theorem rnum_set_flat (nt : Bool) (base n c a : Nat) (s : Option Addr) (L : List TM.N) (k : Int) (hk : TM.W32 k) (hn : n < 65536) (h1 : TM.Row L) (h2 : TM.Once L) (h3 : ∀ x ∈ L, TM.okN x) (ha : a < n) (xo xa xb xk : Int) (hx : TM.nat0 L a = (xo, xa, xb, xk)) (hxo : xo ≠ 336) (w : World) (hO : OwnN w base s n c L) (hbase : base ≤ w.heap.size) (hk0 : k ≠ 0) (hka : k ≠ 4294967295) :
    Calls Try.prog 42 #[.slice s n c, .int .i64 64, .int .i64 a, .int .u32 k, .bool nt] w fun e w' => AtAt base w s L (TM.opA 64 (TM.tr L a) (.num k) nt) 1 e w' := by
  have hl := hO.len
  have hal : a < L.length := by omega
  have q0 : (k == 0) = false := beq_eq_false_iff_ne.2 hk0
  have qa : (k == 4294967295) = false := beq_eq_false_iff_ne.2 hka
  have HN := hid (fun W (h : OwnN W base s n c L) (hb : base ≤ W.heap.size) => rnumber base n c s L k hk (by omega) h1 h2 h3 W h hb)
  have q1 : (xo == 336) = false := beq_eq_false_iff_ne.2 hxo
  have HO := hid (And.intro hO hbase)
  obtain ⟨b1, o1, rfl, hly⟩ := hO.lies.ly (by omega)
  have i1 : (a : Int) < (n : Int) := by omega
  obtain ⟨w1, hw1⟩ : ∃ w1, w.alloc (.cells #[.int .i64 0, .int .i64 0, .int .i64 0, .bool false] 24) = w1 := ⟨_, rfl⟩
  have hl0 := al w (.cells #[.int .i64 0, .int .i64 0, .int .i64 0, .bool false] 24)
  have hA1 := AAt.new w 0 0 0 false
  have hbw := hly.1
  rw [hw1] at hl0 hA1
  have hly1 := hly.below hl0
  have hns : ∀ g, blk (some ⟨b1, o1, none⟩) = some g → g < w.heap.size := fun g hg => by injection hg with hg; rw [← hg]; exact hbw
  have hne : some w.heap.size ≠ blk (some ⟨b1, o1, none⟩) := fun h => by have := hns _ h.symm; omega
  have hx' := hx
  rw [TM.nat0_eq (by omega)] at hx
  obtain ⟨p0, p1, p2, p3⟩ := hly1.2 a (by omega)
  rw [hx] at p0 p1 p2 p3
  simp only at p0 p1 p2 p3
  have hly2 := hly1.below (al w1 (.cells #[.int .i64 xo, .int .i64 xa, .int .i64 xb, .int .u32 xk] 52))
  have hBx := hl0.trans ((al w1 (.cells #[.int .i64 xo, .int .i64 xa, .int .i64 xb, .int .u32 xk] 52)).mono hl0.size)
  have hA2 := hA1.below (al w1 (.cells #[.int .i64 xo, .int .i64 xa, .int .i64 xb, .int .u32 xk] 52))
  have hX := NAt.new w1 xo xa xb xk
  obtain ⟨w2, hw2⟩ : ∃ w2, w1.alloc (.cells #[.int .i64 xo, .int .i64 xa, .int .i64 xb, .int .u32 xk] 52) = w2 := ⟨_, rfl⟩
  rw [hw2] at hly2 hBx hA2 hX
  obtain ⟨x0, x1, x2, x3, x4⟩ := hX.cells
  simp only at x0 x1 x2 x3
  have HBB := hid hBx
  have HA := hid hA2
  have hlt := hA2.lt
  clear hly2 hBx hA2 hX x4
  obtain ⟨a0, a1, a2, a3, a4⟩ := HA.out.cells
  clear hO hbase h1 h2 h3 hly hl hly1 hl0 hA1 hk0 hka hx hx' hxo
  go_enter Try.func42, Try.ntmps42
  go_wp2_with fail
  refine (HN.out _ (HO.out.1.below HBB.out) (Nat.le_trans HO.out.2 HBB.out.size)).mono ?_
  rintro e w3 ⟨s1, n1, c1, L1, q1, rfl, g1, g2, g3, g4, g5, g6⟩
  have HG := hid (And.intro g1 (And.intro g2 (And.intro g3 (And.intro g4 (And.intro g5 g6)))))
  have HA3 := hid (HA.out.grown g2 hne)
  obtain ⟨a0, a1, a2, a3, a4⟩ := HA3.out.cells
  have H9 := hid (AtAt.made hal 64 nt HG.out.1 HG.out.2.1 HG.out.2.2.1 HG.out.2.2.2.1 HG.out.2.2.2.2.1 HG.out.2.2.2.2.2)
  clear g1 g2 g3 g4 g5 g6 HN
  go_wp2
  (try simp only [Exit.inBlock, Exit.then])
  refine bodyPost_ret (results_atom3 rfl _ _ rfl (HA3.out.put _ _ _ _)) rfl ?_
  exact AtAt.box HBB.out (Nat.le_refl _) hlt hns (H9.out) _ _ _ _

set_option maxHeartbeats 6400000 in
set_option maxRecDepth 100000 in
theorem rnum_set_half (nt : Bool) (base n c a : Nat) (s : Option Addr) (L : List TM.N) (k : Int) (hk : TM.W32 k) (hn : n < 65536) (h1 : TM.Row L) (h2 : TM.Once L) (h3 : ∀ x ∈ L, TM.okN x) (ha : a < n) (xa xb xk : Int) (hx : TM.nat0 L a = (336, xa, xb, xk)) (B : Nat) (hB : B < n) (hxb : xb = (B : Int)) (yo ya yb j : Int) (hy : TM.nat0 L B = (yo, ya, yb, j)) (hyo : yo ≠ 1) (w : World) (hO : OwnN w base s n c L) (hbase : base ≤ w.heap.size) (hk0 : k ≠ 0) (hka : k ≠ 4294967295) :
    Calls Try.prog 42 #[.slice s n c, .int .i64 64, .int .i64 a, .int .u32 k, .bool nt] w fun e w' => AtAt base w s L (TM.opA 64 (TM.tr L a) (.num k) nt) 1 e w' := by
  have hl := hO.len
  have hal : a < L.length := by omega
  have q0 : (k == 0) = false := beq_eq_false_iff_ne.2 hk0
  have qa : (k == 4294967295) = false := beq_eq_false_iff_ne.2 hka
  have HN := hid (fun W (h : OwnN W base s n c L) (hb : base ≤ W.heap.size) => rnumber base n c s L k hk (by omega) h1 h2 h3 W h hb)
  have q2 : (yo == 1) = false := beq_eq_false_iff_ne.2 hyo
  have HO := hid (And.intro hO hbase)
  obtain ⟨b1, o1, rfl, hly⟩ := hO.lies.ly (by omega)
  have i1 : (a : Int) < (n : Int) := by omega
  obtain ⟨w1, hw1⟩ : ∃ w1, w.alloc (.cells #[.int .i64 0, .int .i64 0, .int .i64 0, .bool false] 24) = w1 := ⟨_, rfl⟩
  have hl0 := al w (.cells #[.int .i64 0, .int .i64 0, .int .i64 0, .bool false] 24)
  have hA1 := AAt.new w 0 0 0 false
  have hbw := hly.1
  rw [hw1] at hl0 hA1
  have hly1 := hly.below hl0
  have hns : ∀ g, blk (some ⟨b1, o1, none⟩) = some g → g < w.heap.size := fun g hg => by injection hg with hg; rw [← hg]; exact hbw
  have hne : some w.heap.size ≠ blk (some ⟨b1, o1, none⟩) := fun h => by have := hns _ h.symm; omega
  have hx' := hx
  rw [TM.nat0_eq (by omega)] at hx
  obtain ⟨p0, p1, p2, p3⟩ := hly1.2 a (by omega)
  rw [hx] at p0 p1 p2 p3
  simp only at p0 p1 p2 p3
  subst hxb
  rw [TM.nat0_eq (by omega)] at hy
  have i2 : (B : Int) < (n : Int) := by omega
  have hly2 := hly1.below (al w1 (.cells #[.int .i64 336, .int .i64 xa, .int .i64 (B : Int), .int .u32 xk] 52))
  have hBx := hl0.trans ((al w1 (.cells #[.int .i64 336, .int .i64 xa, .int .i64 (B : Int), .int .u32 xk] 52)).mono hl0.size)
  have hA2 := hA1.below (al w1 (.cells #[.int .i64 336, .int .i64 xa, .int .i64 (B : Int), .int .u32 xk] 52))
  have hX := NAt.new w1 336 xa (B : Int) xk
  obtain ⟨w2, hw2⟩ : ∃ w2, w1.alloc (.cells #[.int .i64 336, .int .i64 xa, .int .i64 (B : Int), .int .u32 xk] 52) = w2 := ⟨_, rfl⟩
  rw [hw2] at hly2 hBx hA2 hX
  obtain ⟨x0, x1, x2, x3, x4⟩ := hX.cells
  simp only at x0 x1 x2 x3
  obtain ⟨r0, r1, r2, r3⟩ := hly2.2 B (by omega)
  rw [hy] at r0 r1 r2 r3
  simp only at r0 r1 r2 r3
  have HBB := hid hBx
  have HA := hid hA2
  have hlt := hA2.lt
  clear hly2 hBx hA2 hX x4
  obtain ⟨a0, a1, a2, a3, a4⟩ := HA.out.cells
  clear hO hbase h1 h2 h3 hly hl hly1 hl0 hA1 hk0 hka hx hx' hy hyo hB
  go_enter Try.func42, Try.ntmps42
  go_wp2_with fail
  refine (HN.out _ (HO.out.1.below HBB.out) (Nat.le_trans HO.out.2 HBB.out.size)).mono ?_
  rintro e w3 ⟨s1, n1, c1, L1, q1, rfl, g1, g2, g3, g4, g5, g6⟩
  have HG := hid (And.intro g1 (And.intro g2 (And.intro g3 (And.intro g4 (And.intro g5 g6)))))
  have HA3 := hid (HA.out.grown g2 hne)
  obtain ⟨a0, a1, a2, a3, a4⟩ := HA3.out.cells
  have H9 := hid (AtAt.made hal 64 nt HG.out.1 HG.out.2.1 HG.out.2.2.1 HG.out.2.2.2.1 HG.out.2.2.2.2.1 HG.out.2.2.2.2.2)
  clear g1 g2 g3 g4 g5 g6 HN
  go_wp2
  (try simp only [Exit.inBlock, Exit.then])
  refine bodyPost_ret (results_atom3 rfl _ _ rfl (HA3.out.put _ _ _ _)) rfl ?_
  exact AtAt.box HBB.out (Nat.le_refl _) hlt hns (H9.out) _ _ _ _

set_option maxHeartbeats 6400000 in
set_option maxRecDepth 100000 in
theorem rnum_eq_flat (nt : Bool) (base n c a : Nat) (s : Option Addr) (L : List TM.N) (k : Int) (hk : TM.W32 k) (hn : n < 65536) (h1 : TM.Row L) (h2 : TM.Once L) (h3 : ∀ x ∈ L, TM.okN x) (ha : a < n) (xo xa xb xk : Int) (hx : TM.nat0 L a = (xo, xa, xb, xk)) (hxo : xo ≠ 336) (w : World) (hO : OwnN w base s n c L) (hbase : base ≤ w.heap.size) :
    Calls Try.prog 42 #[.slice s n c, .int .i64 16, .int .i64 a, .int .u32 k, .bool nt] w fun e w' => AtAt base w s L (TM.opA 16 (TM.tr L a) (.num k) nt) 1 e w' := by
  have hl := hO.len
  have hal : a < L.length := by omega
  have HN := hid (fun W (h : OwnN W base s n c L) (hb : base ≤ W.heap.size) => rnumber base n c s L k hk (by omega) h1 h2 h3 W h hb)
  have q1 : (xo == 336) = false := beq_eq_false_iff_ne.2 hxo
  have HO := hid (And.intro hO hbase)
  obtain ⟨b1, o1, rfl, hly⟩ := hO.lies.ly (by omega)
  have i1 : (a : Int) < (n : Int) := by omega
  obtain ⟨w1, hw1⟩ : ∃ w1, w.alloc (.cells #[.int .i64 0, .int .i64 0, .int .i64 0, .bool false] 24) = w1 := ⟨_, rfl⟩
  have hl0 := al w (.cells #[.int .i64 0, .int .i64 0, .int .i64 0, .bool false] 24)
  have hA1 := AAt.new w 0 0 0 false
  have hbw := hly.1
  rw [hw1] at hl0 hA1
  have hly1 := hly.below hl0
  have hns : ∀ g, blk (some ⟨b1, o1, none⟩) = some g → g < w.heap.size := fun g hg => by injection hg with hg; rw [← hg]; exact hbw
  have hne : some w.heap.size ≠ blk (some ⟨b1, o1, none⟩) := fun h => by have := hns _ h.symm; omega
  have hx' := hx
  rw [TM.nat0_eq (by omega)] at hx
  obtain ⟨p0, p1, p2, p3⟩ := hly1.2 a (by omega)
  rw [hx] at p0 p1 p2 p3
  simp only at p0 p1 p2 p3
  have hly2 := hly1.below (al w1 (.cells #[.int .i64 xo, .int .i64 xa, .int .i64 xb, .int .u32 xk] 52))
  have hBx := hl0.trans ((al w1 (.cells #[.int .i64 xo, .int .i64 xa, .int .i64 xb, .int .u32 xk] 52)).mono hl0.size)
  have hA2 := hA1.below (al w1 (.cells #[.int .i64 xo, .int .i64 xa, .int .i64 xb, .int .u32 xk] 52))
  have hX := NAt.new w1 xo xa xb xk
  obtain ⟨w2, hw2⟩ : ∃ w2, w1.alloc (.cells #[.int .i64 xo, .int .i64 xa, .int .i64 xb, .int .u32 xk] 52) = w2 := ⟨_, rfl⟩
  rw [hw2] at hly2 hBx hA2 hX
  obtain ⟨x0, x1, x2, x3, x4⟩ := hX.cells
  simp only at x0 x1 x2 x3
  have HBB := hid hBx
  have HA := hid hA2
  have hlt := hA2.lt
  clear hly2 hBx hA2 hX x4
  obtain ⟨a0, a1, a2, a3, a4⟩ := HA.out.cells
  clear hO hbase h1 h2 h3 hly hl hly1 hl0 hA1 hx hx' hxo
  go_enter Try.func42, Try.ntmps42
  go_wp2_with fail
  refine (HN.out _ (HO.out.1.below HBB.out) (Nat.le_trans HO.out.2 HBB.out.size)).mono ?_
  rintro e w3 ⟨s1, n1, c1, L1, q1, rfl, g1, g2, g3, g4, g5, g6⟩
  have HG := hid (And.intro g1 (And.intro g2 (And.intro g3 (And.intro g4 (And.intro g5 g6)))))
  have HA3 := hid (HA.out.grown g2 hne)
  obtain ⟨a0, a1, a2, a3, a4⟩ := HA3.out.cells
  have H9 := hid (AtAt.made hal 16 nt HG.out.1 HG.out.2.1 HG.out.2.2.1 HG.out.2.2.2.1 HG.out.2.2.2.2.1 HG.out.2.2.2.2.2)
  clear g1 g2 g3 g4 g5 g6 HN
  go_wp2
  (try simp only [Exit.inBlock, Exit.then])
  refine bodyPost_ret (results_atom3 rfl _ _ rfl (HA3.out.put _ _ _ _)) rfl ?_
  exact AtAt.box HBB.out (Nat.le_refl _) hlt hns (H9.out) _ _ _ _

set_option maxHeartbeats 6400000 in
set_option maxRecDepth 100000 in
theorem rnum_eq_half (nt : Bool) (base n c a : Nat) (s : Option Addr) (L : List TM.N) (k : Int) (hk : TM.W32 k) (hn : n < 65536) (h1 : TM.Row L) (h2 : TM.Once L) (h3 : ∀ x ∈ L, TM.okN x) (ha : a < n) (xa xb xk : Int) (hx : TM.nat0 L a = (336, xa, xb, xk)) (B : Nat) (hB : B < n) (hxb : xb = (B : Int)) (yo ya yb j : Int) (hy : TM.nat0 L B = (yo, ya, yb, j)) (hyo : yo ≠ 1) (w : World) (hO : OwnN w base s n c L) (hbase : base ≤ w.heap.size) :
    Calls Try.prog 42 #[.slice s n c, .int .i64 16, .int .i64 a, .int .u32 k, .bool nt] w fun e w' => AtAt base w s L (TM.opA 16 (TM.tr L a) (.num k) nt) 1 e w' := by
  have hl := hO.len
  have hal : a < L.length := by omega
  have HN := hid (fun W (h : OwnN W base s n c L) (hb : base ≤ W.heap.size) => rnumber base n c s L k hk (by omega) h1 h2 h3 W h hb)
  have q2 : (yo == 1) = false := beq_eq_false_iff_ne.2 hyo
  have HO := hid (And.intro hO hbase)
  obtain ⟨b1, o1, rfl, hly⟩ := hO.lies.ly (by omega)
  have i1 : (a : Int) < (n : Int) := by omega
  obtain ⟨w1, hw1⟩ : ∃ w1, w.alloc (.cells #[.int .i64 0, .int .i64 0, .int .i64 0, .bool false] 24) = w1 := ⟨_, rfl⟩
  have hl0 := al w (.cells #[.int .i64 0, .int .i64 0, .int .i64 0, .bool false] 24)
  have hA1 := AAt.new w 0 0 0 false
  have hbw := hly.1
  rw [hw1] at hl0 hA1
  have hly1 := hly.below hl0
  have hns : ∀ g, blk (some ⟨b1, o1, none⟩) = some g → g < w.heap.size := fun g hg => by injection hg with hg; rw [← hg]; exact hbw
  have hne : some w.heap.size ≠ blk (some ⟨b1, o1, none⟩) := fun h => by have := hns _ h.symm; omega
  have hx' := hx
  rw [TM.nat0_eq (by omega)] at hx
  obtain ⟨p0, p1, p2, p3⟩ := hly1.2 a (by omega)
  rw [hx] at p0 p1 p2 p3
  simp only at p0 p1 p2 p3
  subst hxb
  rw [TM.nat0_eq (by omega)] at hy
  have i2 : (B : Int) < (n : Int) := by omega
  have hly2 := hly1.below (al w1 (.cells #[.int .i64 336, .int .i64 xa, .int .i64 (B : Int), .int .u32 xk] 52))
  have hBx := hl0.trans ((al w1 (.cells #[.int .i64 336, .int .i64 xa, .int .i64 (B : Int), .int .u32 xk] 52)).mono hl0.size)
  have hA2 := hA1.below (al w1 (.cells #[.int .i64 336, .int .i64 xa, .int .i64 (B : Int), .int .u32 xk] 52))
  have hX := NAt.new w1 336 xa (B : Int) xk
  obtain ⟨w2, hw2⟩ : ∃ w2, w1.alloc (.cells #[.int .i64 336, .int .i64 xa, .int .i64 (B : Int), .int .u32 xk] 52) = w2 := ⟨_, rfl⟩
  rw [hw2] at hly2 hBx hA2 hX
  obtain ⟨x0, x1, x2, x3, x4⟩ := hX.cells
  simp only at x0 x1 x2 x3
  obtain ⟨r0, r1, r2, r3⟩ := hly2.2 B (by omega)
  rw [hy] at r0 r1 r2 r3
  simp only at r0 r1 r2 r3
  have HBB := hid hBx
  have HA := hid hA2
  have hlt := hA2.lt
  clear hly2 hBx hA2 hX x4
  obtain ⟨a0, a1, a2, a3, a4⟩ := HA.out.cells
  clear hO hbase h1 h2 h3 hly hl hly1 hl0 hA1 hx hx' hy hyo hB
  go_enter Try.func42, Try.ntmps42
  go_wp2_with fail
  refine (HN.out _ (HO.out.1.below HBB.out) (Nat.le_trans HO.out.2 HBB.out.size)).mono ?_
  rintro e w3 ⟨s1, n1, c1, L1, q1, rfl, g1, g2, g3, g4, g5, g6⟩
  have HG := hid (And.intro g1 (And.intro g2 (And.intro g3 (And.intro g4 (And.intro g5 g6)))))
  have HA3 := hid (HA.out.grown g2 hne)
  obtain ⟨a0, a1, a2, a3, a4⟩ := HA3.out.cells
  have H9 := hid (AtAt.made hal 16 nt HG.out.1 HG.out.2.1 HG.out.2.2.1 HG.out.2.2.2.1 HG.out.2.2.2.2.1 HG.out.2.2.2.2.2)
  clear g1 g2 g3 g4 g5 g6 HN
  go_wp2
  (try simp only [Exit.inBlock, Exit.then])
  refine bodyPost_ret (results_atom3 rfl _ _ rfl (HA3.out.put _ _ _ _)) rfl ?_
  exact AtAt.box HBB.out (Nat.le_refl _) hlt hns (H9.out) _ _ _ _

set_option maxHeartbeats 6400000 in
set_option maxRecDepth 100000 in
theorem rnum_gt_flat (nt : Bool) (base n c a : Nat) (s : Option Addr) (L : List TM.N) (k : Int) (hk : TM.W32 k) (hn : n < 65536) (h1 : TM.Row L) (h2 : TM.Once L) (h3 : ∀ x ∈ L, TM.okN x) (ha : a < n) (xo xa xb xk : Int) (hx : TM.nat0 L a = (xo, xa, xb, xk)) (hxo : xo ≠ 336) (w : World) (hO : OwnN w base s n c L) (hbase : base ≤ w.heap.size) (hk0 : k ≠ 0) (hka : k ≠ 4294967295) :
    Calls Try.prog 42 #[.slice s n c, .int .i64 32, .int .i64 a, .int .u32 k, .bool nt] w fun e w' => AtAt base w s L (TM.opA 32 (TM.tr L a) (.num k) nt) 1 e w' := by
  have hl := hO.len
  have hal : a < L.length := by omega
  have q0 : (k == 0) = false := beq_eq_false_iff_ne.2 hk0
  have qa : (k == 4294967295) = false := beq_eq_false_iff_ne.2 hka
  have HN := hid (fun W (h : OwnN W base s n c L) (hb : base ≤ W.heap.size) => rnumber base n c s L k hk (by omega) h1 h2 h3 W h hb)
  have q1 : (xo == 336) = false := beq_eq_false_iff_ne.2 hxo
  have HO := hid (And.intro hO hbase)
  obtain ⟨b1, o1, rfl, hly⟩ := hO.lies.ly (by omega)
  have i1 : (a : Int) < (n : Int) := by omega
  obtain ⟨w1, hw1⟩ : ∃ w1, w.alloc (.cells #[.int .i64 0, .int .i64 0, .int .i64 0, .bool false] 24) = w1 := ⟨_, rfl⟩
  have hl0 := al w (.cells #[.int .i64 0, .int .i64 0, .int .i64 0, .bool false] 24)
  have hA1 := AAt.new w 0 0 0 false
  have hbw := hly.1
  rw [hw1] at hl0 hA1
  have hly1 := hly.below hl0
  have hns : ∀ g, blk (some ⟨b1, o1, none⟩) = some g → g < w.heap.size := fun g hg => by injection hg with hg; rw [← hg]; exact hbw
  have hne : some w.heap.size ≠ blk (some ⟨b1, o1, none⟩) := fun h => by have := hns _ h.symm; omega
  have hx' := hx
  rw [TM.nat0_eq (by omega)] at hx
  obtain ⟨p0, p1, p2, p3⟩ := hly1.2 a (by omega)
  rw [hx] at p0 p1 p2 p3
  simp only at p0 p1 p2 p3
  have hly2 := hly1.below (al w1 (.cells #[.int .i64 xo, .int .i64 xa, .int .i64 xb, .int .u32 xk] 52))
  have hBx := hl0.trans ((al w1 (.cells #[.int .i64 xo, .int .i64 xa, .int .i64 xb, .int .u32 xk] 52)).mono hl0.size)
  have hA2 := hA1.below (al w1 (.cells #[.int .i64 xo, .int .i64 xa, .int .i64 xb, .int .u32 xk] 52))
  have hX := NAt.new w1 xo xa xb xk
  obtain ⟨w2, hw2⟩ : ∃ w2, w1.alloc (.cells #[.int .i64 xo, .int .i64 xa, .int .i64 xb, .int .u32 xk] 52) = w2 := ⟨_, rfl⟩
  rw [hw2] at hly2 hBx hA2 hX
  obtain ⟨x0, x1, x2, x3, x4⟩ := hX.cells
  simp only at x0 x1 x2 x3
  have HBB := hid hBx
  have HA := hid hA2
  have hlt := hA2.lt
  clear hly2 hBx hA2 hX x4
  obtain ⟨a0, a1, a2, a3, a4⟩ := HA.out.cells
  clear hO hbase h1 h2 h3 hly hl hly1 hl0 hA1 hk0 hka hx hx' hxo
  go_enter Try.func42, Try.ntmps42
  go_wp2_with fail
  refine (HN.out _ (HO.out.1.below HBB.out) (Nat.le_trans HO.out.2 HBB.out.size)).mono ?_
  rintro e w3 ⟨s1, n1, c1, L1, q1, rfl, g1, g2, g3, g4, g5, g6⟩
  have HG := hid (And.intro g1 (And.intro g2 (And.intro g3 (And.intro g4 (And.intro g5 g6)))))
  have HA3 := hid (HA.out.grown g2 hne)
  obtain ⟨a0, a1, a2, a3, a4⟩ := HA3.out.cells
  have H9 := hid (AtAt.made hal 32 nt HG.out.1 HG.out.2.1 HG.out.2.2.1 HG.out.2.2.2.1 HG.out.2.2.2.2.1 HG.out.2.2.2.2.2)
  clear g1 g2 g3 g4 g5 g6 HN
  go_wp2
  (try simp only [Exit.inBlock, Exit.then])
  refine bodyPost_ret (results_atom3 rfl _ _ rfl (HA3.out.put _ _ _ _)) rfl ?_
  exact AtAt.box HBB.out (Nat.le_refl _) hlt hns (H9.out) _ _ _ _

set_option maxHeartbeats 6400000 in
set_option maxRecDepth 100000 in
theorem rnum_gt_half (nt : Bool) (base n c a : Nat) (s : Option Addr) (L : List TM.N) (k : Int) (hk : TM.W32 k) (hn : n < 65536) (h1 : TM.Row L) (h2 : TM.Once L) (h3 : ∀ x ∈ L, TM.okN x) (ha : a < n) (xa xb xk : Int) (hx : TM.nat0 L a = (336, xa, xb, xk)) (B : Nat) (hB : B < n) (hxb : xb = (B : Int)) (yo ya yb j : Int) (hy : TM.nat0 L B = (yo, ya, yb, j)) (hyo : yo ≠ 1) (w : World) (hO : OwnN w base s n c L) (hbase : base ≤ w.heap.size) (hk0 : k ≠ 0) (hka : k ≠ 4294967295) :
    Calls Try.prog 42 #[.slice s n c, .int .i64 32, .int .i64 a, .int .u32 k, .bool nt] w fun e w' => AtAt base w s L (TM.opA 32 (TM.tr L a) (.num k) nt) 1 e w' := by
  have hl := hO.len
  have hal : a < L.length := by omega
  have q0 : (k == 0) = false := beq_eq_false_iff_ne.2 hk0
  have qa : (k == 4294967295) = false := beq_eq_false_iff_ne.2 hka
  have HN := hid (fun W (h : OwnN W base s n c L) (hb : base ≤ W.heap.size) => rnumber base n c s L k hk (by omega) h1 h2 h3 W h hb)
  have q2 : (yo == 1) = false := beq_eq_false_iff_ne.2 hyo
  have HO := hid (And.intro hO hbase)
  obtain ⟨b1, o1, rfl, hly⟩ := hO.lies.ly (by omega)
  have i1 : (a : Int) < (n : Int) := by omega
  obtain ⟨w1, hw1⟩ : ∃ w1, w.alloc (.cells #[.int .i64 0, .int .i64 0, .int .i64 0, .bool false] 24) = w1 := ⟨_, rfl⟩
  have hl0 := al w (.cells #[.int .i64 0, .int .i64 0, .int .i64 0, .bool false] 24)
  have hA1 := AAt.new w 0 0 0 false
  have hbw := hly.1
  rw [hw1] at hl0 hA1
  have hly1 := hly.below hl0
  have hns : ∀ g, blk (some ⟨b1, o1, none⟩) = some g → g < w.heap.size := fun g hg => by injection hg with hg; rw [← hg]; exact hbw
  have hne : some w.heap.size ≠ blk (some ⟨b1, o1, none⟩) := fun h => by have := hns _ h.symm; omega
  have hx' := hx
  rw [TM.nat0_eq (by omega)] at hx
  obtain ⟨p0, p1, p2, p3⟩ := hly1.2 a (by omega)
  rw [hx] at p0 p1 p2 p3
  simp only at p0 p1 p2 p3
  subst hxb
  rw [TM.nat0_eq (by omega)] at hy
  have i2 : (B : Int) < (n : Int) := by omega
  have hly2 := hly1.below (al w1 (.cells #[.int .i64 336, .int .i64 xa, .int .i64 (B : Int), .int .u32 xk] 52))
  have hBx := hl0.trans ((al w1 (.cells #[.int .i64 336, .int .i64 xa, .int .i64 (B : Int), .int .u32 xk] 52)).mono hl0.size)
  have hA2 := hA1.below (al w1 (.cells #[.int .i64 336, .int .i64 xa, .int .i64 (B : Int), .int .u32 xk] 52))
  have hX := NAt.new w1 336 xa (B : Int) xk
  obtain ⟨w2, hw2⟩ : ∃ w2, w1.alloc (.cells #[.int .i64 336, .int .i64 xa, .int .i64 (B : Int), .int .u32 xk] 52) = w2 := ⟨_, rfl⟩
  rw [hw2] at hly2 hBx hA2 hX
  obtain ⟨x0, x1, x2, x3, x4⟩ := hX.cells
  simp only at x0 x1 x2 x3
  obtain ⟨r0, r1, r2, r3⟩ := hly2.2 B (by omega)
  rw [hy] at r0 r1 r2 r3
  simp only at r0 r1 r2 r3
  have HBB := hid hBx
  have HA := hid hA2
  have hlt := hA2.lt
  clear hly2 hBx hA2 hX x4
  obtain ⟨a0, a1, a2, a3, a4⟩ := HA.out.cells
  clear hO hbase h1 h2 h3 hly hl hly1 hl0 hA1 hk0 hka hx hx' hy hyo hB
  go_enter Try.func42, Try.ntmps42
  go_wp2_with fail
  refine (HN.out _ (HO.out.1.below HBB.out) (Nat.le_trans HO.out.2 HBB.out.size)).mono ?_
  rintro e w3 ⟨s1, n1, c1, L1, q1, rfl, g1, g2, g3, g4, g5, g6⟩
  have HG := hid (And.intro g1 (And.intro g2 (And.intro g3 (And.intro g4 (And.intro g5 g6)))))
  have HA3 := hid (HA.out.grown g2 hne)
  obtain ⟨a0, a1, a2, a3, a4⟩ := HA3.out.cells
  have H9 := hid (AtAt.made hal 32 nt HG.out.1 HG.out.2.1 HG.out.2.2.1 HG.out.2.2.2.1 HG.out.2.2.2.2.1 HG.out.2.2.2.2.2)
  clear g1 g2 g3 g4 g5 g6 HN
  go_wp2
  (try simp only [Exit.inBlock, Exit.then])
  refine bodyPost_ret (results_atom3 rfl _ _ rfl (HA3.out.put _ _ _ _)) rfl ?_
  exact AtAt.box HBB.out (Nat.le_refl _) hlt hns (H9.out) _ _ _ _

set_option maxHeartbeats 6400000 in
set_option maxRecDepth 100000 in
theorem rnum_set_on (nt : Bool) (base n c a : Nat) (s : Option Addr) (L : List TM.N) (k : Int) (hk : TM.W32 k) (hn : n < 65536) (h1 : TM.Row L) (h2 : TM.Once L) (h3 : ∀ x ∈ L, TM.okN x) (ha : a < n) (A B : Nat) (hA : A < a) (hB : B < n) (xk ya yb j v : Int) (hx : TM.nat0 L a = (336, (A : Int), (B : Int), xk)) (hy : TM.nat0 L B = (1, ya, yb, j)) (hv : TM.told 80 j k = v) (w : World) (hO : OwnN w base s n c L) (hbase : base ≤ w.heap.size) (D : Nat) (t : TM.At) (HR : ∀ (s1 : Option Addr) (n1 c1 : Nat) (L1 : List TM.N) (q1 : Nat) W, OwnN W base s1 n1 c1 L1 → base ≤ W.heap.size → TM.Made L L1 (.num v) q1 → L1.length ≤ L.length + 1 → Calls Try.prog 20 #[.slice s1 n1 c1, .int .i64 64, .int .i64 (A : Int), .int .i64 ((q1 : Nat) : Int), .bool nt] W fun e w' => AtAt base W s1 L1 t D e w') (hk0 : k ≠ 0) (hka : k ≠ 4294967295) :
    Calls Try.prog 42 #[.slice s n c, .int .i64 64, .int .i64 a, .int .u32 k, .bool nt] w fun e w' => AtAt base w s L t (1 + D) e w' := by
  have hl := hO.len
  have hal : a < L.length := by omega
  have wj : TM.W32 j := by have := (TM.nat0_ok h3 B).2.2.2; rw [hy] at this; exact this
  have hvw : TM.W32 v := by rw [← hv]; exact TM.told_w32 _ _ _
  have HS := hid (fun W => WB.ralu_any 80 j k wj.1 wj.2 hk.1 hk.2 W)
  rw [← TM.told_trn (by decide), hv] at HS
  have q0 : (k == 0) = false := beq_eq_false_iff_ne.2 hk0
  have qa : (k == 4294967295) = false := beq_eq_false_iff_ne.2 hka
  have HRR := hid HR
  have HN := hid (fun W (h : OwnN W base s n c L) (hb : base ≤ W.heap.size) => rnumber base n c s L v hvw (by omega) h1 h2 h3 W h hb)
  have HO := hid (And.intro hO hbase)
  obtain ⟨b1, o1, rfl, hly⟩ := hO.lies.ly (by omega)
  have i1 : (a : Int) < (n : Int) := by omega
  obtain ⟨w1, hw1⟩ : ∃ w1, w.alloc (.cells #[.int .i64 0, .int .i64 0, .int .i64 0, .bool false] 24) = w1 := ⟨_, rfl⟩
  have hl0 := al w (.cells #[.int .i64 0, .int .i64 0, .int .i64 0, .bool false] 24)
  have hA1 := AAt.new w 0 0 0 false
  have hbw := hly.1
  rw [hw1] at hl0 hA1
  have hly1 := hly.below hl0
  have hns : ∀ g, blk (some ⟨b1, o1, none⟩) = some g → g < w.heap.size := fun g hg => by injection hg with hg; rw [← hg]; exact hbw
  have hne : some w.heap.size ≠ blk (some ⟨b1, o1, none⟩) := fun h => by have := hns _ h.symm; omega
  rw [TM.nat0_eq (by omega)] at hx
  obtain ⟨p0, p1, p2, p3⟩ := hly1.2 a (by omega)
  rw [hx] at p0 p1 p2 p3
  simp only at p0 p1 p2 p3
  rw [TM.nat0_eq (by omega)] at hy
  have i2 : (B : Int) < (n : Int) := by omega
  have hly2 := hly1.below (al w1 (.cells #[.int .i64 336, .int .i64 (A : Int), .int .i64 (B : Int), .int .u32 xk] 52))
  have hBx := hl0.trans ((al w1 (.cells #[.int .i64 336, .int .i64 (A : Int), .int .i64 (B : Int), .int .u32 xk] 52)).mono hl0.size)
  have hA2 := hA1.below (al w1 (.cells #[.int .i64 336, .int .i64 (A : Int), .int .i64 (B : Int), .int .u32 xk] 52))
  have hX := NAt.new w1 336 (A : Int) (B : Int) xk
  obtain ⟨w2, hw2⟩ : ∃ w2, w1.alloc (.cells #[.int .i64 336, .int .i64 (A : Int), .int .i64 (B : Int), .int .u32 xk] 52) = w2 := ⟨_, rfl⟩
  rw [hw2] at hly2 hBx hA2 hX
  obtain ⟨x0, x1, x2, x3, x4⟩ := hX.cells
  simp only at x0 x1 x2 x3
  obtain ⟨r0, r1, r2, r3⟩ := hly2.2 B (by omega)
  rw [hy] at r0 r1 r2 r3
  simp only at r0 r1 r2 r3
  have HBB := hid hBx
  have hl1 := hl0.size
  have HA := hid hA2
  have hlt := hA2.lt
  clear hly2 hBx hA2 hX x4
  obtain ⟨a0, a1, a2, a3, a4⟩ := HA.out.cells
  clear hO hbase h1 h2 h3 hly hl hly1 hl0 hA1 hx hy hB hA hv hvw wj hk0 hka HR
  go_enter Try.func42, Try.ntmps42
  go_wp2_with fail
  refine (HS.out _).mono ?_
  rintro e w3 ⟨rfl, hb⟩
  have x1' := (hb.cell (p := ⟨w1.heap.size, 1, none⟩) (World.block_lt_of_cell? _ _ x1)).trans x1
  have x2' := (hb.cell (p := ⟨w1.heap.size, 2, none⟩) (World.block_lt_of_cell? _ _ x2)).trans x2
  replace HBB := stp HBB hb
  replace HA := hid (HA.out.below hb)
  replace hlt := HA.out.lt
  have hw1s : w.heap.size ≤ w1.heap.size := hl1
  clear hb HS p0 p1 p2 p3 r0 r1 r2 r3 x0 x1 x2 x3 a0 a1 a2 a3 a4
  obtain ⟨a0, a1, a2, a3, a4⟩ := HA.out.cells
  go_wp2_with fail
  refine (HN.out _ (HO.out.1.below HBB.out) (Nat.le_trans HO.out.2 HBB.out.size)).mono ?_
  rintro e w4 ⟨s1, n1, c1, L1, q1, rfl, g1, g2, g3, g4, g5, g6⟩
  have HG := hid (And.intro g1 (And.intro g2 (And.intro g3 (And.intro g4 (And.intro g5 g6)))))
  have HA3 := hid (HA.out.grown g2 hne)
  have x1'' : w4.cell? ⟨w1.heap.size, 1, none⟩ = some (.int .i64 (A : Int)) := (World.cell?_of_block (g2.block w1.heap.size (World.block_lt_of_cell? _ _ x1') (by simp [blk]; omega))).trans x1'
  clear x1' x2'
  clear g1 g2 g3 g4 g5 g6 HN a0 a1 a2 a3 a4
  go_wp2_with fail
  refine (HRR.out _ _ _ _ _ _ HG.out.1 (Nat.le_trans HO.out.2 (Nat.le_trans HBB.out.size HG.out.2.1.size)) HG.out.2.2.2.2.1 HG.out.2.2.2.2.2).mono ?_
  rintro e w5 ⟨s', n', c', L', o, p, q, k', rfl, f1⟩
  have HF := hid f1
  have h9 := AtAt.comp (HO.out.1.below HBB.out) HG.out.1 HG.out.2.1 HG.out.2.2.1 HG.out.2.2.2.1 HG.out.2.2.2.2.1 HG.out.2.2.2.2.2 ⟨s', n', c', L', o, p, q, k', rfl, HF.out⟩
  have HA4 := hid (HA3.out.grown f1.2.1 (fun h => by
    rcases HG.out.2.2.1 _ h.symm with h | h
    · exact hne h.symm
    · omega))
  have H9 := hid h9
  obtain ⟨a0, a1, a2, a3, a4⟩ := HA4.out.cells
  clear f1 HRR h9
  go_wp2
  (try simp only [Exit.inBlock, Exit.then])
  refine bodyPost_ret (results_atom3 rfl _ _ rfl (HA4.out.put _ _ _ _)) rfl ?_
  exact AtAt.box HBB.out (Nat.le_refl _) hlt hns (H9.out) _ _ _ _

set_option maxHeartbeats 6400000 in
set_option maxRecDepth 100000 in
theorem rnum_eq_never (nt : Bool) (base n c a : Nat) (s : Option Addr) (L : List TM.N) (k : Int) (hk : TM.W32 k) (hn : n < 65536) (h1 : TM.Row L) (h2 : TM.Once L) (h3 : ∀ x ∈ L, TM.okN x) (ha : a < n) (A B : Nat) (hA : A < a) (hB : B < n) (xk ya yb j v : Int) (hx : TM.nat0 L a = (336, (A : Int), (B : Int), xk)) (hy : TM.nat0 L B = (1, ya, yb, j)) (hv : TM.told 80 j k = v) (w : World) (hO : OwnN w base s n c L) (hbase : base ≤ w.heap.size) (hvk : v ≠ k) :
    Calls Try.prog 42 #[.slice s n c, .int .i64 16, .int .i64 a, .int .u32 k, .bool nt] w fun e w' => AtAt base w s L (TM.knB false nt) 0 e w' := by
  have hl := hO.len
  have hal : a < L.length := by omega
  have wj : TM.W32 j := by have := (TM.nat0_ok h3 B).2.2.2; rw [hy] at this; exact this
  have hvw : TM.W32 v := by rw [← hv]; exact TM.told_w32 _ _ _
  have HS := hid (fun W => WB.ralu_any 80 j k wj.1 wj.2 hk.1 hk.2 W)
  rw [← TM.told_trn (by decide), hv] at HS
  have HK := hid (fun W (h : Below w.heap.size w W) x => AtAt.kn (hO.below h) (Below.refl _ _) h1 h2 h3 x nt 0)
  have q3 : (v != k) = true := by simp [hvk]
  have HO := hid (And.intro hO hbase)
  obtain ⟨b1, o1, rfl, hly⟩ := hO.lies.ly (by omega)
  have i1 : (a : Int) < (n : Int) := by omega
  obtain ⟨w1, hw1⟩ : ∃ w1, w.alloc (.cells #[.int .i64 0, .int .i64 0, .int .i64 0, .bool false] 24) = w1 := ⟨_, rfl⟩
  have hl0 := al w (.cells #[.int .i64 0, .int .i64 0, .int .i64 0, .bool false] 24)
  have hA1 := AAt.new w 0 0 0 false
  have hbw := hly.1
  rw [hw1] at hl0 hA1
  have hly1 := hly.below hl0
  have hns : ∀ g, blk (some ⟨b1, o1, none⟩) = some g → g < w.heap.size := fun g hg => by injection hg with hg; rw [← hg]; exact hbw
  have hne : some w.heap.size ≠ blk (some ⟨b1, o1, none⟩) := fun h => by have := hns _ h.symm; omega
  rw [TM.nat0_eq (by omega)] at hx
  obtain ⟨p0, p1, p2, p3⟩ := hly1.2 a (by omega)
  rw [hx] at p0 p1 p2 p3
  simp only at p0 p1 p2 p3
  rw [TM.nat0_eq (by omega)] at hy
  have i2 : (B : Int) < (n : Int) := by omega
  have hly2 := hly1.below (al w1 (.cells #[.int .i64 336, .int .i64 (A : Int), .int .i64 (B : Int), .int .u32 xk] 52))
  have hBx := hl0.trans ((al w1 (.cells #[.int .i64 336, .int .i64 (A : Int), .int .i64 (B : Int), .int .u32 xk] 52)).mono hl0.size)
  have hA2 := hA1.below (al w1 (.cells #[.int .i64 336, .int .i64 (A : Int), .int .i64 (B : Int), .int .u32 xk] 52))
  have hX := NAt.new w1 336 (A : Int) (B : Int) xk
  obtain ⟨w2, hw2⟩ : ∃ w2, w1.alloc (.cells #[.int .i64 336, .int .i64 (A : Int), .int .i64 (B : Int), .int .u32 xk] 52) = w2 := ⟨_, rfl⟩
  rw [hw2] at hly2 hBx hA2 hX
  obtain ⟨x0, x1, x2, x3, x4⟩ := hX.cells
  simp only at x0 x1 x2 x3
  obtain ⟨r0, r1, r2, r3⟩ := hly2.2 B (by omega)
  rw [hy] at r0 r1 r2 r3
  simp only at r0 r1 r2 r3
  have HBB := hid hBx
  have hl1 := hl0.size
  have HA := hid hA2
  have hlt := hA2.lt
  clear hly2 hBx hA2 hX x4
  obtain ⟨a0, a1, a2, a3, a4⟩ := HA.out.cells
  clear hO hbase h1 h2 h3 hly hl hly1 hl0 hA1 hx hy hB hA hv hvw wj hvk
  go_enter Try.func42, Try.ntmps42
  go_wp2_with fail
  refine (HS.out _).mono ?_
  rintro e w3 ⟨rfl, hb⟩
  have x1' := (hb.cell (p := ⟨w1.heap.size, 1, none⟩) (World.block_lt_of_cell? _ _ x1)).trans x1
  have x2' := (hb.cell (p := ⟨w1.heap.size, 2, none⟩) (World.block_lt_of_cell? _ _ x2)).trans x2
  replace HBB := stp HBB hb
  replace HA := hid (HA.out.below hb)
  replace hlt := HA.out.lt
  have hw1s : w.heap.size ≤ w1.heap.size := hl1
  clear hb HS p0 p1 p2 p3 r0 r1 r2 r3 x0 x1 x2 x3 a0 a1 a2 a3 a4
  obtain ⟨a0, a1, a2, a3, a4⟩ := HA.out.cells
  go_wp2_with fail
  refine (rknown false nt _).mono ?_
  rintro e w4 ⟨rfl, rfl⟩
  go_wp2
  (try simp only [Exit.inBlock, Exit.then])
  refine bodyPost_ret (results_atom3 rfl _ _ rfl (HA.out.put _ _ _ _)) rfl ?_
  exact AtAt.box HBB.out (Nat.le_refl _) hlt hns (HK.out _ HBB.out false) _ _ _ _

set_option maxHeartbeats 6400000 in
set_option maxRecDepth 100000 in
theorem rnum_eq_set (nt : Bool) (base n c a : Nat) (s : Option Addr) (L : List TM.N) (k : Int) (hk : TM.W32 k) (hn : n < 65536) (h1 : TM.Row L) (h2 : TM.Once L) (h3 : ∀ x ∈ L, TM.okN x) (ha : a < n) (A B : Nat) (hA : A < a) (hB : B < n) (xk ya yb j v : Int) (hx : TM.nat0 L a = (336, (A : Int), (B : Int), xk)) (hy : TM.nat0 L B = (1, ya, yb, j)) (hv : TM.told 80 j k = v) (w : World) (hO : OwnN w base s n c L) (hbase : base ≤ w.heap.size) (hk0 : k = 0) (hvk : v = k) (D : Nat) (t : TM.At) (HR : ∀ W, OwnN W base s n c L → base ≤ W.heap.size → Calls Try.prog 20 #[.slice s n c, .int .i64 64, .int .i64 (A : Int), .int .i64 (B : Int), .bool (!nt)] W fun e w' => AtAt base W s L t D e w') :
    Calls Try.prog 42 #[.slice s n c, .int .i64 16, .int .i64 a, .int .u32 k, .bool nt] w fun e w' => AtAt base w s L t D e w' := by
  have hl := hO.len
  have hal : a < L.length := by omega
  have wj : TM.W32 j := by have := (TM.nat0_ok h3 B).2.2.2; rw [hy] at this; exact this
  have hvw : TM.W32 v := by rw [← hv]; exact TM.told_w32 _ _ _
  have HS := hid (fun W => WB.ralu_any 80 j k wj.1 wj.2 hk.1 hk.2 W)
  rw [← TM.told_trn (by decide), hv] at HS
  have HRR := hid HR
  subst hvk hk0
  have HO := hid (And.intro hO hbase)
  obtain ⟨b1, o1, rfl, hly⟩ := hO.lies.ly (by omega)
  have i1 : (a : Int) < (n : Int) := by omega
  obtain ⟨w1, hw1⟩ : ∃ w1, w.alloc (.cells #[.int .i64 0, .int .i64 0, .int .i64 0, .bool false] 24) = w1 := ⟨_, rfl⟩
  have hl0 := al w (.cells #[.int .i64 0, .int .i64 0, .int .i64 0, .bool false] 24)
  have hA1 := AAt.new w 0 0 0 false
  have hbw := hly.1
  rw [hw1] at hl0 hA1
  have hly1 := hly.below hl0
  have hns : ∀ g, blk (some ⟨b1, o1, none⟩) = some g → g < w.heap.size := fun g hg => by injection hg with hg; rw [← hg]; exact hbw
  have hne : some w.heap.size ≠ blk (some ⟨b1, o1, none⟩) := fun h => by have := hns _ h.symm; omega
  rw [TM.nat0_eq (by omega)] at hx
  obtain ⟨p0, p1, p2, p3⟩ := hly1.2 a (by omega)
  rw [hx] at p0 p1 p2 p3
  simp only at p0 p1 p2 p3
  rw [TM.nat0_eq (by omega)] at hy
  have i2 : (B : Int) < (n : Int) := by omega
  have hly2 := hly1.below (al w1 (.cells #[.int .i64 336, .int .i64 (A : Int), .int .i64 (B : Int), .int .u32 xk] 52))
  have hBx := hl0.trans ((al w1 (.cells #[.int .i64 336, .int .i64 (A : Int), .int .i64 (B : Int), .int .u32 xk] 52)).mono hl0.size)
  have hA2 := hA1.below (al w1 (.cells #[.int .i64 336, .int .i64 (A : Int), .int .i64 (B : Int), .int .u32 xk] 52))
  have hX := NAt.new w1 336 (A : Int) (B : Int) xk
  obtain ⟨w2, hw2⟩ : ∃ w2, w1.alloc (.cells #[.int .i64 336, .int .i64 (A : Int), .int .i64 (B : Int), .int .u32 xk] 52) = w2 := ⟨_, rfl⟩
  rw [hw2] at hly2 hBx hA2 hX
  obtain ⟨x0, x1, x2, x3, x4⟩ := hX.cells
  simp only at x0 x1 x2 x3
  obtain ⟨r0, r1, r2, r3⟩ := hly2.2 B (by omega)
  rw [hy] at r0 r1 r2 r3
  simp only at r0 r1 r2 r3
  have HBB := hid hBx
  have hl1 := hl0.size
  have HA := hid hA2
  have hlt := hA2.lt
  clear hly2 hBx hA2 hX x4
  obtain ⟨a0, a1, a2, a3, a4⟩ := HA.out.cells
  clear hO hbase h1 h2 h3 hly hl hly1 hl0 hA1 hx hy hB hA hv hvw wj HR
  go_enter Try.func42, Try.ntmps42
  go_wp2_with fail
  refine (HS.out _).mono ?_
  rintro e w3 ⟨rfl, hb⟩
  have x1' := (hb.cell (p := ⟨w1.heap.size, 1, none⟩) (World.block_lt_of_cell? _ _ x1)).trans x1
  have x2' := (hb.cell (p := ⟨w1.heap.size, 2, none⟩) (World.block_lt_of_cell? _ _ x2)).trans x2
  replace HBB := stp HBB hb
  replace HA := hid (HA.out.below hb)
  replace hlt := HA.out.lt
  have hw1s : w.heap.size ≤ w1.heap.size := hl1
  clear hb HS p0 p1 p2 p3 r0 r1 r2 r3 x0 x1 x2 x3 a0 a1 a2 a3 a4
  obtain ⟨a0, a1, a2, a3, a4⟩ := HA.out.cells
  go_wp2_with fail
  refine (HRR.out _ (HO.out.1.below HBB.out) (Nat.le_trans HO.out.2 HBB.out.size)).mono ?_
  rintro e w4 ⟨s', n', c', L', o, p, q, k', rfl, g1⟩
  have HG := hid g1
  have HA3 := hid (HA.out.grown g1.2.1 hne)
  clear g1 HRR a0 a1 a2 a3 a4
  obtain ⟨a0, a1, a2, a3, a4⟩ := HA3.out.cells
  go_wp2
  (try simp only [Exit.inBlock, Exit.then])
  refine bodyPost_ret (results_atom3 rfl _ _ rfl (HA3.out.put _ _ _ _)) rfl ?_
  exact AtAt.box HBB.out (Nat.le_refl _) hlt hns (⟨s', n', c', L', o, p, q, k', rfl, HG.out⟩) _ _ _ _

set_option maxHeartbeats 6400000 in
set_option maxRecDepth 100000 in
theorem rnum_eq_on (nt : Bool) (base n c a : Nat) (s : Option Addr) (L : List TM.N) (k : Int) (hk : TM.W32 k) (hn : n < 65536) (h1 : TM.Row L) (h2 : TM.Once L) (h3 : ∀ x ∈ L, TM.okN x) (ha : a < n) (A B : Nat) (hA : A < a) (hB : B < n) (xk ya yb j v : Int) (hx : TM.nat0 L a = (336, (A : Int), (B : Int), xk)) (hy : TM.nat0 L B = (1, ya, yb, j)) (hv : TM.told 80 j k = v) (w : World) (hO : OwnN w base s n c L) (hbase : base ≤ w.heap.size) (hk0 : k ≠ 0) (hvk : v = k) :
    Calls Try.prog 42 #[.slice s n c, .int .i64 16, .int .i64 a, .int .u32 k, .bool nt] w fun e w' => AtAt base w s L (TM.opA 16 (TM.tr L a) (.num k) nt) 1 e w' := by
  have hl := hO.len
  have hal : a < L.length := by omega
  have wj : TM.W32 j := by have := (TM.nat0_ok h3 B).2.2.2; rw [hy] at this; exact this
  have hvw : TM.W32 v := by rw [← hv]; exact TM.told_w32 _ _ _
  have HS := hid (fun W => WB.ralu_any 80 j k wj.1 wj.2 hk.1 hk.2 W)
  rw [← TM.told_trn (by decide), hv] at HS
  have q0 : (k == 0) = false := beq_eq_false_iff_ne.2 hk0
  have HN := hid (fun W (h : OwnN W base s n c L) (hb : base ≤ W.heap.size) => rnumber base n c s L k hk (by omega) h1 h2 h3 W h hb)
  have q3 : (v != k) = false := by simp [hvk]
  have HO := hid (And.intro hO hbase)
  obtain ⟨b1, o1, rfl, hly⟩ := hO.lies.ly (by omega)
  have i1 : (a : Int) < (n : Int) := by omega
  obtain ⟨w1, hw1⟩ : ∃ w1, w.alloc (.cells #[.int .i64 0, .int .i64 0, .int .i64 0, .bool false] 24) = w1 := ⟨_, rfl⟩
  have hl0 := al w (.cells #[.int .i64 0, .int .i64 0, .int .i64 0, .bool false] 24)
  have hA1 := AAt.new w 0 0 0 false
  have hbw := hly.1
  rw [hw1] at hl0 hA1
  have hly1 := hly.below hl0
  have hns : ∀ g, blk (some ⟨b1, o1, none⟩) = some g → g < w.heap.size := fun g hg => by injection hg with hg; rw [← hg]; exact hbw
  have hne : some w.heap.size ≠ blk (some ⟨b1, o1, none⟩) := fun h => by have := hns _ h.symm; omega
  rw [TM.nat0_eq (by omega)] at hx
  obtain ⟨p0, p1, p2, p3⟩ := hly1.2 a (by omega)
  rw [hx] at p0 p1 p2 p3
  simp only at p0 p1 p2 p3
  rw [TM.nat0_eq (by omega)] at hy
  have i2 : (B : Int) < (n : Int) := by omega
  have hly2 := hly1.below (al w1 (.cells #[.int .i64 336, .int .i64 (A : Int), .int .i64 (B : Int), .int .u32 xk] 52))
  have hBx := hl0.trans ((al w1 (.cells #[.int .i64 336, .int .i64 (A : Int), .int .i64 (B : Int), .int .u32 xk] 52)).mono hl0.size)
  have hA2 := hA1.below (al w1 (.cells #[.int .i64 336, .int .i64 (A : Int), .int .i64 (B : Int), .int .u32 xk] 52))
  have hX := NAt.new w1 336 (A : Int) (B : Int) xk
  obtain ⟨w2, hw2⟩ : ∃ w2, w1.alloc (.cells #[.int .i64 336, .int .i64 (A : Int), .int .i64 (B : Int), .int .u32 xk] 52) = w2 := ⟨_, rfl⟩
  rw [hw2] at hly2 hBx hA2 hX
  obtain ⟨x0, x1, x2, x3, x4⟩ := hX.cells
  simp only at x0 x1 x2 x3
  obtain ⟨r0, r1, r2, r3⟩ := hly2.2 B (by omega)
  rw [hy] at r0 r1 r2 r3
  simp only at r0 r1 r2 r3
  have HBB := hid hBx
  have hl1 := hl0.size
  have HA := hid hA2
  have hlt := hA2.lt
  clear hly2 hBx hA2 hX x4
  obtain ⟨a0, a1, a2, a3, a4⟩ := HA.out.cells
  clear hO hbase h1 h2 h3 hly hl hly1 hl0 hA1 hx hy hB hA hv hvw wj hk0 hvk
  go_enter Try.func42, Try.ntmps42
  go_wp2_with fail
  refine (HS.out _).mono ?_
  rintro e w3 ⟨rfl, hb⟩
  have x1' := (hb.cell (p := ⟨w1.heap.size, 1, none⟩) (World.block_lt_of_cell? _ _ x1)).trans x1
  have x2' := (hb.cell (p := ⟨w1.heap.size, 2, none⟩) (World.block_lt_of_cell? _ _ x2)).trans x2
  replace HBB := stp HBB hb
  replace HA := hid (HA.out.below hb)
  replace hlt := HA.out.lt
  have hw1s : w.heap.size ≤ w1.heap.size := hl1
  clear hb HS p0 p1 p2 p3 r0 r1 r2 r3 x0 x1 x2 x3 a0 a1 a2 a3 a4
  obtain ⟨a0, a1, a2, a3, a4⟩ := HA.out.cells
  go_wp2_with fail
  refine (HN.out _ (HO.out.1.below HBB.out) (Nat.le_trans HO.out.2 HBB.out.size)).mono ?_
  rintro e w4 ⟨s1, n1, c1, L1, q1, rfl, g1, g2, g3, g4, g5, g6⟩
  have HG := hid (And.intro g1 (And.intro g2 (And.intro g3 (And.intro g4 (And.intro g5 g6)))))
  have HA3 := hid (HA.out.grown g2 hne)
  clear a0 a1 a2 a3 a4
  obtain ⟨a0, a1, a2, a3, a4⟩ := HA3.out.cells
  have H9 := hid (AtAt.made hal 16 nt HG.out.1 HG.out.2.1 HG.out.2.2.1 HG.out.2.2.2.1 HG.out.2.2.2.2.1 HG.out.2.2.2.2.2)
  clear g1 g2 g3 g4 g5 g6 HN
  go_wp2
  (try simp only [Exit.inBlock, Exit.then])
  refine bodyPost_ret (results_atom3 rfl _ _ rfl (HA3.out.put _ _ _ _)) rfl ?_
  exact AtAt.box HBB.out (Nat.le_refl _) hlt hns (H9.out) _ _ _ _

set_option maxHeartbeats 6400000 in
set_option maxRecDepth 100000 in
theorem rnum_gt_on (nt : Bool) (base n c a : Nat) (s : Option Addr) (L : List TM.N) (k : Int) (hk : TM.W32 k) (hn : n < 65536) (h1 : TM.Row L) (h2 : TM.Once L) (h3 : ∀ x ∈ L, TM.okN x) (ha : a < n) (A B : Nat) (hA : A < a) (hB : B < n) (xk ya yb j v : Int) (hx : TM.nat0 L a = (336, (A : Int), (B : Int), xk)) (hy : TM.nat0 L B = (1, ya, yb, j)) (hv : TM.told 80 j k = v) (w : World) (hO : OwnN w base s n c L) (hbase : base ≤ w.heap.size) (hk0 : k ≠ 0) (hka : k ≠ 4294967295) :
    Calls Try.prog 42 #[.slice s n c, .int .i64 32, .int .i64 a, .int .u32 k, .bool nt] w fun e w' => AtAt base w s L (TM.opA 32 (TM.tr L a) (.num k) nt) 1 e w' := by
  have hl := hO.len
  have hal : a < L.length := by omega
  have wj : TM.W32 j := by have := (TM.nat0_ok h3 B).2.2.2; rw [hy] at this; exact this
  have hvw : TM.W32 v := by rw [← hv]; exact TM.told_w32 _ _ _
  have HS := hid (fun W => WB.ralu_any 80 j k wj.1 wj.2 hk.1 hk.2 W)
  rw [← TM.told_trn (by decide), hv] at HS
  have q0 : (k == 0) = false := beq_eq_false_iff_ne.2 hk0
  have qa : (k == 4294967295) = false := beq_eq_false_iff_ne.2 hka
  have HN := hid (fun W (h : OwnN W base s n c L) (hb : base ≤ W.heap.size) => rnumber base n c s L k hk (by omega) h1 h2 h3 W h hb)
  have HO := hid (And.intro hO hbase)
  obtain ⟨b1, o1, rfl, hly⟩ := hO.lies.ly (by omega)
  have i1 : (a : Int) < (n : Int) := by omega
  obtain ⟨w1, hw1⟩ : ∃ w1, w.alloc (.cells #[.int .i64 0, .int .i64 0, .int .i64 0, .bool false] 24) = w1 := ⟨_, rfl⟩
  have hl0 := al w (.cells #[.int .i64 0, .int .i64 0, .int .i64 0, .bool false] 24)
  have hA1 := AAt.new w 0 0 0 false
  have hbw := hly.1
  rw [hw1] at hl0 hA1
  have hly1 := hly.below hl0
  have hns : ∀ g, blk (some ⟨b1, o1, none⟩) = some g → g < w.heap.size := fun g hg => by injection hg with hg; rw [← hg]; exact hbw
  have hne : some w.heap.size ≠ blk (some ⟨b1, o1, none⟩) := fun h => by have := hns _ h.symm; omega
  rw [TM.nat0_eq (by omega)] at hx
  obtain ⟨p0, p1, p2, p3⟩ := hly1.2 a (by omega)
  rw [hx] at p0 p1 p2 p3
  simp only at p0 p1 p2 p3
  rw [TM.nat0_eq (by omega)] at hy
  have i2 : (B : Int) < (n : Int) := by omega
  have hly2 := hly1.below (al w1 (.cells #[.int .i64 336, .int .i64 (A : Int), .int .i64 (B : Int), .int .u32 xk] 52))
  have hBx := hl0.trans ((al w1 (.cells #[.int .i64 336, .int .i64 (A : Int), .int .i64 (B : Int), .int .u32 xk] 52)).mono hl0.size)
  have hA2 := hA1.below (al w1 (.cells #[.int .i64 336, .int .i64 (A : Int), .int .i64 (B : Int), .int .u32 xk] 52))
  have hX := NAt.new w1 336 (A : Int) (B : Int) xk
  obtain ⟨w2, hw2⟩ : ∃ w2, w1.alloc (.cells #[.int .i64 336, .int .i64 (A : Int), .int .i64 (B : Int), .int .u32 xk] 52) = w2 := ⟨_, rfl⟩
  rw [hw2] at hly2 hBx hA2 hX
  obtain ⟨x0, x1, x2, x3, x4⟩ := hX.cells
  simp only at x0 x1 x2 x3
  obtain ⟨r0, r1, r2, r3⟩ := hly2.2 B (by omega)
  rw [hy] at r0 r1 r2 r3
  simp only at r0 r1 r2 r3
  have HBB := hid hBx
  have hl1 := hl0.size
  have HA := hid hA2
  have hlt := hA2.lt
  clear hly2 hBx hA2 hX x4
  obtain ⟨a0, a1, a2, a3, a4⟩ := HA.out.cells
  clear hO hbase h1 h2 h3 hly hl hly1 hl0 hA1 hx hy hB hA hv hvw wj hk0 hka
  go_enter Try.func42, Try.ntmps42
  go_wp2_with fail
  refine (HS.out _).mono ?_
  rintro e w3 ⟨rfl, hb⟩
  have x1' := (hb.cell (p := ⟨w1.heap.size, 1, none⟩) (World.block_lt_of_cell? _ _ x1)).trans x1
  have x2' := (hb.cell (p := ⟨w1.heap.size, 2, none⟩) (World.block_lt_of_cell? _ _ x2)).trans x2
  replace HBB := stp HBB hb
  replace HA := hid (HA.out.below hb)
  replace hlt := HA.out.lt
  have hw1s : w.heap.size ≤ w1.heap.size := hl1
  clear hb HS p0 p1 p2 p3 r0 r1 r2 r3 x0 x1 x2 x3 a0 a1 a2 a3 a4
  obtain ⟨a0, a1, a2, a3, a4⟩ := HA.out.cells
  go_wp2_with fail
  refine (HN.out _ (HO.out.1.below HBB.out) (Nat.le_trans HO.out.2 HBB.out.size)).mono ?_
  rintro e w4 ⟨s1, n1, c1, L1, q1, rfl, g1, g2, g3, g4, g5, g6⟩
  have HG := hid (And.intro g1 (And.intro g2 (And.intro g3 (And.intro g4 (And.intro g5 g6)))))
  have HA3 := hid (HA.out.grown g2 hne)
  clear a0 a1 a2 a3 a4
  obtain ⟨a0, a1, a2, a3, a4⟩ := HA3.out.cells
  have H9 := hid (AtAt.made hal 32 nt HG.out.1 HG.out.2.1 HG.out.2.2.1 HG.out.2.2.2.1 HG.out.2.2.2.2.1 HG.out.2.2.2.2.2)
  clear g1 g2 g3 g4 g5 g6 HN
  go_wp2
  (try simp only [Exit.inBlock, Exit.then])
  refine bodyPost_ret (results_atom3 rfl _ _ rfl (HA3.out.put _ _ _ _)) rfl ?_
  exact AtAt.box HBB.out (Nat.le_refl _) hlt hns (H9.out) _ _ _ _
end Go.Proofs.Ytkeigicobcjleaa.TB
