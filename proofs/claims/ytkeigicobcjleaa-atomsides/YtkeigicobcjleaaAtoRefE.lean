/-
  The reference's Make of layer 13, of any two places.
-/
import Derived.Test.YtkeigicobcjleaaAtoRefD
namespace Go.Proofs.Ytkeigicobcjleaa.TB
open Go.ChangeShapes Go.WideShapes Go.ChangeAt Go.RowKit
open Go.Sort hiding Below
set_option linter.unusedVariables false
set_option maxRecDepth 100000
theorem rgt_any (a : Nat) : NumOk 32 a (a + 2) := by
  intro nt base n c s L k hk hn h1 h2 h3 ha hx w hO hbase
  have hl := hO.len
  have hq := req_any (a := a) (fun a' _ => rset_any a')
  rw [TM.num_32, TM.cgtT]
  by_cases ea : k = 4294967295
  · rw [if_pos ea]
    exact (rnum_gt_all nt base n c a s L k hk (by omega) h1 h2 h3 ha w hO hbase ea).mono fun _ _ h => h.more (by omega)
  · rw [if_neg ea]
    by_cases e0 : k = 0
    · rw [if_pos e0]
      refine (rnum_gt_0 nt base n c a s L k hk (by omega) h1 h2 h3 ha w hO hbase (a + 1) _ (fun s1 n1 c1 L1 q1 W g1 g2 g3 g4 => ?_) e0).mono fun _ _ h => h.more (by omega)
      have hl1 := g1.len
      have hk1 := g3.keep (i := a) (by omega)
      have := mk_of_num hq (!nt) base n1 c1 q1 s1 L1 0 TM.w0 (by omega) g3.row g3.once g3.ok (by have := g3.len; omega) (by rw [hk1.1]; exact hx) (by have := g3.lt; omega) g3.tr W g1 g2
      rw [TM.num_16, hk1.2] at this
      exact this
    · rw [if_neg e0]
      rcases TM.chn_nodes h1 (a := a) (by omega) with ⟨A, B, xk, ya, yb, j, hA, hB, hxx, hy, hc⟩ | ⟨hc, hf⟩
      · exact (rnum_gt_on nt base n c a s L k hk (by omega) h1 h2 h3 ha A B hA (by omega) xk ya yb j _ hxx hy rfl w hO hbase e0 ea).mono fun _ _ h => h.more (by omega)
      · rcases hf with hf | ⟨B, xa, xk, yo, ya, yb, j, hB, hxx, hy, hyo⟩
        · exact (rnum_gt_flat nt base n c a s L k hk (by omega) h1 h2 h3 ha (TM.nat0 L a).1 (TM.nat0 L a).2.1 (TM.nat0 L a).2.2.1 (TM.nat0 L a).2.2.2 rfl hf w hO hbase e0 ea).mono fun _ _ h => h.more (by omega)
        · exact (rnum_gt_half nt base n c a s L k hk (by omega) h1 h2 h3 ha xa B xk hxx B (by omega) rfl yo ya yb j hy hyo w hO hbase e0 ea).mono fun _ _ h => h.more (by omega)
theorem rge_any (a : Nat) : NumOk 48 a (a + 3) := by
  intro nt base n c s L k hk hn h1 h2 h3 ha hx w hO hbase
  have hl := hO.len
  rw [TM.num_48]
  by_cases e0 : k = 0
  · rw [if_pos e0]
    exact (rnum_ge_0 nt base n c a s L k hk (by omega) h1 h2 h3 ha w hO hbase e0).mono fun _ _ h => h.more (by omega)
  · rw [if_neg e0]
    refine (rnum_ge nt base n c a s L k hk (by omega) h1 h2 h3 ha w hO hbase (a + 2) _ (fun s1 n1 c1 L1 q1 W g1 g2 g3 g4 => ?_) e0).mono fun _ _ h => h.more (by omega)
    have hl1 := g1.len
    have hk1 := g3.keep (i := a) (by omega)
    have := mk_of_num (rgt_any a) nt base n1 c1 q1 s1 L1 (k - 1) (by have := hk.1; have := hk.2; unfold TM.W32; omega) (by omega) g3.row g3.once g3.ok (by have := g3.len; omega) (by rw [hk1.1]; exact hx) (by have := g3.lt; omega) g3.tr W g1 g2
    rw [TM.num_32, hk1.2] at this
    exact this
theorem NumOk.more {op : Int} {a D E : Nat} (h : NumOk op a D) (hDE : D ≤ E) : NumOk op a E := fun nt base n c s L k hk hn h1 h2 h3 ha hx w hO hbase =>
  (h nt base n c s L k hk (by omega) h1 h2 h3 ha hx w hO hbase).mono fun _ _ h => h.more hDE
theorem rnum_any {op : Int} (ho : TM.isQ op = true) (a : Nat) : NumOk op a (a + 3) := by
  rcases TM.isQ_iff.1 ho with rfl | rfl | rfl | rfl
  · exact (req_any (fun a' _ => rset_any a')).more (by omega)
  · exact (rgt_any a).more (by omega)
  · exact rge_any a
  · exact (rset_any a).more (by omega)
/-- what Make tells of any two places -/
theorem rmakeA_any {op : Int} (ho : TM.isQ op = true) (nt : Bool) (base n c a b : Nat) (s : Option Addr) (L : List TM.N) (hn : n + a + b + 4 < 65536) (h1 : TM.Row L) (h2 : TM.Once L) (h3 : ∀ x ∈ L, TM.okN x) (ha : a < n) (hb : b < n) (w : World) (hO : OwnN w base s n c L) (hbase : base ≤ w.heap.size) :
    Calls Try.prog 20 #[.slice s n c, .int .i64 op, .int .i64 a, .int .i64 b, .bool nt] w fun e w' => AtAt base w s L (TM.mkA op (TM.tr L a) (TM.tr L b) nt) (a + b + 4) e w' := by
  have hl := hO.len
  have na := TM.nm_row h1 (a := a) (by omega)
  have nb := TM.nm_row h1 (a := b) (by omega)
  have wk : ∀ i, TM.W32 (TM.nat0 L i).2.2.2 := fun i => (TM.nat0_ok h3 i).2.2.2
  by_cases xa : (TM.nat0 L a).1 = 1
  · rw [if_pos xa] at na
    have ta := TM.nmT_some na
    by_cases xb : (TM.nat0 L b).1 = 1
    · rw [if_pos xb] at nb
      rw [TM.mkA_nums na nb]
      exact (rmakeA_nn op nt base n c a b s L (by omega) h1 h2 h3 ha hb (TM.nat0 L a).2.1 (TM.nat0 L a).2.2.1 (TM.nat0 L b).2.1 (TM.nat0 L b).2.2.1 (TM.nat0 L a).2.2.2 (TM.nat0 L b).2.2.2 (by rw [← xa]) (by rw [← xb]) w hO hbase).mono fun _ _ h => h.more (by omega)
    · rw [if_neg xb] at nb
      have key : ∀ (o2 : Int) (n2 : Bool), TM.isQ o2 = true → ∀ W, OwnN W base s n c L → base ≤ W.heap.size → Calls Try.prog 20 #[.slice s n c, .int .i64 o2, .int .i64 b, .int .i64 ((a : Nat) : Int), .bool n2] W fun e w' => AtAt base W s L (TM.numA o2 (TM.tr L b) (TM.nat0 L a).2.2.2 n2) (a + b + 4) e w' :=
        fun o2 n2 h W g1 g2 => (mk_of_num (rnum_any h b) n2 base n c a s L _ (wk a) (by omega) h1 h2 h3 hb xb ha ta W g1 g2).mono fun _ _ h => h.more (by omega)
      unfold TM.mkA
      rw [na, nb]
      simp only
      rcases TM.isQ_iff.1 ho with rfl | rfl | rfl | rfl
      · rw [if_neg (by decide), if_neg (by decide)]
        exact rmakeA_nx 16 nt base n c a b s L (by omega) h1 h2 h3 ha hb (TM.nat0 L a).2.1 (TM.nat0 L a).2.2.1 (TM.nat0 L b).1 (TM.nat0 L b).2.1 (TM.nat0 L b).2.2.1 (TM.nat0 L b).2.2.2 (TM.nat0 L a).2.2.2 (by rw [← xa]) rfl w hO hbase (by omega) (a + b + 4) _ xb (key 16 nt rfl)
      · rw [if_pos rfl]
        exact rmakeA_nx32 nt base n c a b s L (by omega) h1 h2 h3 ha hb (TM.nat0 L a).2.1 (TM.nat0 L a).2.2.1 (TM.nat0 L b).1 (TM.nat0 L b).2.1 (TM.nat0 L b).2.2.1 (TM.nat0 L b).2.2.2 (TM.nat0 L a).2.2.2 (by rw [← xa]) rfl w hO hbase (a + b + 4) _ xb (key 48 (!nt) rfl)
      · rw [if_neg (by decide), if_pos rfl]
        exact rmakeA_nx48 nt base n c a b s L (by omega) h1 h2 h3 ha hb (TM.nat0 L a).2.1 (TM.nat0 L a).2.2.1 (TM.nat0 L b).1 (TM.nat0 L b).2.1 (TM.nat0 L b).2.2.1 (TM.nat0 L b).2.2.2 (TM.nat0 L a).2.2.2 (by rw [← xa]) rfl w hO hbase (a + b + 4) _ xb (key 32 (!nt) rfl)
      · rw [if_neg (by decide), if_neg (by decide)]
        exact rmakeA_nx 64 nt base n c a b s L (by omega) h1 h2 h3 ha hb (TM.nat0 L a).2.1 (TM.nat0 L a).2.2.1 (TM.nat0 L b).1 (TM.nat0 L b).2.1 (TM.nat0 L b).2.2.1 (TM.nat0 L b).2.2.2 (TM.nat0 L a).2.2.2 (by rw [← xa]) rfl w hO hbase (by omega) (a + b + 4) _ xb (key 64 nt rfl)
  · rw [if_neg xa] at na
    by_cases xb : (TM.nat0 L b).1 = 1
    · rw [if_pos xb] at nb
      have tb := TM.nmT_some nb
      have hm : TM.mkA op (TM.tr L a) (TM.tr L b) nt = TM.numA op (TM.tr L a) (TM.nat0 L b).2.2.2 nt := by
        rw [tb]; exact TM.mk_num na nt
      rw [hm]
      exact (mk_of_num (rnum_any ho a) nt base n c b s L _ (wk b) (by omega) h1 h2 h3 ha xa hb tb w hO hbase).mono fun _ _ h => h.more (by omega)
    · rw [if_neg xb] at nb
      unfold TM.mkA
      rw [na, nb]
      simp only
      by_cases e : a = b
      · subst e
        rw [if_pos (TM.eqT_iff.2 rfl)]
        by_cases o : op = 64
        · subst o
          rw [if_pos rfl]
          refine (rmakeA_bits nt base n c a a s L (by omega) h1 h2 h3 ha ha (TM.nat0 L a).1 (TM.nat0 L a).2.1 (TM.nat0 L a).2.2.1 (TM.nat0 L a).2.2.2 (TM.nat0 L a).1 (TM.nat0 L a).2.1 (TM.nat0 L a).2.2.1 (TM.nat0 L a).2.2.2 rfl rfl w hO hbase xa xa rfl (a + 1) _ (fun s1 n1 c1 L1 q1 W g1 g2 g3 g4 => ?_)).mono fun _ _ h => h.more (by omega)
          have hl1 := g1.len
          have hk1 := g3.keep (i := a) (by omega)
          have := mk_of_num (req_any (a := a) (fun a' _ => rset_any a')) (!nt) base n1 c1 q1 s1 L1 0 TM.w0 (by omega) g3.row g3.once g3.ok (by have := g3.len; omega) (by rw [hk1.1]; exact xa) (by have := g3.lt; omega) g3.tr W g1 g2
          rw [TM.num_16, hk1.2] at this
          exact this
        · rw [if_neg o]
          exact (rmakeA_same op nt base n c a a s L (by omega) h1 h2 h3 ha ha (TM.nat0 L a).1 (TM.nat0 L a).2.1 (TM.nat0 L a).2.2.1 (TM.nat0 L a).2.2.2 (TM.nat0 L a).1 (TM.nat0 L a).2.1 (TM.nat0 L a).2.2.1 (TM.nat0 L a).2.2.2 rfl rfl w hO hbase xa xa rfl o).mono fun _ _ h => h.more (by omega)
      · rw [if_neg (fun h => e (TM.tr_inj h1 h3 h2 a b (by omega) (by omega) (TM.eqT_iff.1 h)))]
        exact (rmakeA_open op nt base n c a b s L (by omega) h1 h2 h3 ha hb (TM.nat0 L a).1 (TM.nat0 L a).2.1 (TM.nat0 L a).2.2.1 (TM.nat0 L a).2.2.2 (TM.nat0 L b).1 (TM.nat0 L b).2.1 (TM.nat0 L b).2.2.1 (TM.nat0 L b).2.2.2 rfl rfl w hO hbase xa xb e).mono fun _ _ h => h.more (by omega)
end Go.Proofs.Ytkeigicobcjleaa.TB
