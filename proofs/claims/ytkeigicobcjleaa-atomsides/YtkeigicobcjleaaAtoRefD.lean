/-
  The reference's Make of layer 13, whole: what is told of any two places.
-/
import Derived.Test.YtkeigicobcjleaaAtoRefC
namespace Go.Proofs.Ytkeigicobcjleaa.TM
set_option linter.unusedVariables false
set_option maxRecDepth 100000
theorem chn80 {t x : Tr} {j : Int} (h : chn 80 t = some (x, j)) : t = op2 80 x (.num j) := (chn_sz h).2.1
theorem chn80_none {o : Int} {x : Tr} {j : Int} (h : chn 80 (op2 o x (.num j)) = none) : o ≠ 80 := fun e => by
  subst e
  have : chn 80 (op2 80 x (.num j)) = some (x, j) := rfl
  rw [this] at h; cases h
theorem cset_0 {t : Tr} (hn : nmT t = none) (n : Bool) : csetT t 0 n = knB false n := by
  rw [csetT.eq_def]
  split
  · cases hn
  · rw [if_pos rfl]
  · rw [if_pos rfl]
theorem cset_on {t x : Tr} {j k : Int} (h : chn 80 t = some (x, j)) (hk0 : k ≠ 0) (hka : k ≠ 4294967295) (n : Bool) : csetT t k n = csetT x (told 80 j k) n := by
  have := chn80 h
  subst this
  rw [csetT, if_neg hk0, if_neg hka, if_pos rfl]
theorem cset_flat {t : Tr} {k : Int} (hn : nmT t = none) (h : chn 80 t = none) (hk0 : k ≠ 0) (hka : k ≠ 4294967295) (n : Bool) : csetT t k n = opA 64 t (.num k) n := by
  rw [csetT.eq_def]
  split
  · cases hn
  · rw [if_neg hk0, if_neg hka, if_neg (chn80_none h)]
  · rw [if_neg hk0, if_neg hka]
theorem ceq_flat {t : Tr} {k : Int} (hn : nmT t = none) (h : chn 80 t = none) (n : Bool) : ceqT t k n = opA 16 t (.num k) n := by
  rw [ceqT.eq_def]
  split
  · cases hn
  · rw [if_neg (chn80_none h)]
  · rfl
theorem ceq_on {t x : Tr} {j k : Int} (h : chn 80 t = some (x, j)) (n : Bool) : ceqT t k n = if told 80 j k ≠ k then knB false n else if k = 0 then csetT x j (!n) else opA 16 t (.num k) n := by
  have := chn80 h
  subst this
  rw [ceqT, if_pos rfl]
theorem cset_all {t : Tr} (hn : nmT t = none) (ht : okT t) (n : Bool) : csetT t 4294967295 n = ceqT t 0 (!n) := by
  cases h : chn 80 t with
  | some p =>
    obtain ⟨x, j⟩ := p
    rw [ceq_on h]
    have := chn80 h
    subst this
    rw [okT] at ht
    have hj := ht.2.2.2
    rw [okT] at hj
    rw [csetT, if_neg (by decide), if_pos rfl, if_pos rfl, if_neg (by simp [told80_0 hj]), if_pos rfl, Bool.not_not]
  | none =>
    rw [ceq_flat hn h, csetT.eq_def]
    split
    · cases hn
    · rw [if_neg (by decide), if_pos rfl, if_neg (chn80_none h)]
    · rw [if_neg (by decide), if_pos rfl]
theorem num_16 (t : Tr) (k : Int) (n : Bool) : numA 16 t k n = ceqT t k n := by unfold numA; rw [if_pos rfl]
theorem num_32 (t : Tr) (k : Int) (n : Bool) : numA 32 t k n = cgtT t k n := by unfold numA; rw [if_neg (by decide), if_pos rfl]
theorem num_48 (t : Tr) (k : Int) (n : Bool) : numA 48 t k n = if k = 0 then knB true n else cgtT t (k - 1) n := by unfold numA; rw [if_neg (by decide), if_neg (by decide), if_pos rfl]
theorem num_64 (t : Tr) (k : Int) (n : Bool) : numA 64 t k n = csetT t k n := by unfold numA; rw [if_neg (by decide), if_neg (by decide), if_neg (by decide)]
theorem num_node {l : List N} (hl : Row l) {q : Nat} (hq : q < l.length) {k : Int} (h : tr l q = .num k) : ∃ ya yb, nat0 l q = (1, ya, yb, k) := by
  have hn := nm_row hl hq
  rw [h] at hn
  have hn' : some k = if (nat0 l q).1 = 1 then some (nat0 l q).2.2.2 else none := hn
  split at hn'
  · rename_i g
    injection hn' with e
    exact ⟨(nat0 l q).2.1, (nat0 l q).2.2.1, by rw [e, ← g]⟩
  · cases hn'
/-- a term of AAnd with a number on its right, as nodes -/
theorem chn_nodes {l : List N} (hl : Row l) {a : Nat} (ha : a < l.length) :
    (∃ A B : Nat, ∃ xk ya yb j : Int, A < a ∧ B < a ∧ nat0 l a = (336, ((A : Nat) : Int), ((B : Nat) : Int), xk) ∧ nat0 l B = (1, ya, yb, j) ∧ chn 80 (tr l a) = some (tr l A, j)) ∨
    (chn 80 (tr l a) = none ∧ ((nat0 l a).1 ≠ 336 ∨ ∃ B : Nat, ∃ xa xk yo ya yb j : Int, B < a ∧ nat0 l a = (336, xa, (B : Int), xk) ∧ nat0 l B = (yo, ya, yb, j) ∧ yo ≠ 1)) := by
  have hc := chn_row hl ha (op := 80) (by decide)
  have hm := may_ok (hl.2 a ha)
  by_cases h1 : (nat0 l a).1 = 336
  · rcases hx : nat0 l a with ⟨xo, xa, xb, xk⟩
    rw [hx] at hc hm h1
    simp only at hc hm h1
    subst h1
    have h4 : 0 ≤ xa ∧ xa < a ∧ 0 ≤ xb ∧ xb < a := by
      rcases hm with h | h | h | h
      · omega
      · omega
      · omega
      · exact ⟨h.2.2.2.1, h.2.2.2.2.1, h.2.2.2.2.2.1, h.2.2.2.2.2.2⟩
    obtain ⟨A, rfl⟩ := Int.eq_ofNat_of_zero_le h4.1
    obtain ⟨B, rfl⟩ := Int.eq_ofNat_of_zero_le h4.2.2.1
    simp only [Int.toNat_natCast] at hc
    rcases hy : nat0 l B with ⟨yo, ya, yb, j⟩
    rw [hy] at hc
    simp only at hc
    by_cases h2 : yo = 1
    · subst h2
      rw [if_pos ⟨by decide, by decide, rfl⟩] at hc
      exact .inl ⟨A, B, xk, ya, yb, j, by omega, by omega, rfl, hy, hc⟩
    · rw [if_neg (fun h => h2 h.2.2)] at hc
      exact .inr ⟨hc, .inr ⟨B, A, xk, yo, ya, yb, j, by omega, rfl, hy, h2⟩⟩
  · rw [if_neg (fun h => h1 (by have := h.2.1; omega))] at hc
    exact .inr ⟨hc, .inl h1⟩
end Go.Proofs.Ytkeigicobcjleaa.TM
namespace Go.Proofs.Ytkeigicobcjleaa.TB
open Go.ChangeShapes Go.WideShapes Go.ChangeAt Go.RowKit
open Go.Sort hiding Below
set_option linter.unusedVariables false
set_option maxRecDepth 100000
/-- what number tells of a term that is no number, at the place a, with room for D more -/
def NumOk (op : Int) (a D : Nat) : Prop := ∀ (nt : Bool) (base n c : Nat) (s : Option Addr) (L : List TM.N) (k : Int), TM.W32 k → n + D < 65536 → TM.Row L → TM.Once L → (∀ x ∈ L, TM.okN x) → a < n → (TM.nat0 L a).1 ≠ 1 → ∀ w, OwnN w base s n c L → base ≤ w.heap.size →
  Calls Try.prog 42 #[.slice s n c, .int .i64 op, .int .i64 a, .int .u32 k, .bool nt] w fun e w' => AtAt base w s L (TM.numA op (TM.tr L a) k nt) D e w'
theorem nm_not {l : List TM.N} (hl : TM.Row l) {a : Nat} (ha : a < l.length) (h : (TM.nat0 l a).1 ≠ 1) : TM.nmT (TM.tr l a) = none := by
  rw [TM.nm_row hl ha, if_neg h]
/-- Make of a place and of a number's -/
theorem mk_of_num {op : Int} {a D : Nat} (H : NumOk op a D) (nt : Bool) (base n c q : Nat) (s : Option Addr) (L : List TM.N) (K : Int) (hK : TM.W32 K) (hn : n + D < 65536) (h1 : TM.Row L) (h2 : TM.Once L) (h3 : ∀ x ∈ L, TM.okN x) (ha : a < n) (hx : (TM.nat0 L a).1 ≠ 1) (hq : q < n) (ht : TM.tr L q = .num K) (w : World) (hO : OwnN w base s n c L) (hbase : base ≤ w.heap.size) :
    Calls Try.prog 20 #[.slice s n c, .int .i64 op, .int .i64 a, .int .i64 ((q : Nat) : Int), .bool nt] w fun e w' => AtAt base w s L (TM.numA op (TM.tr L a) K nt) D e w' := by
  have hl := hO.len
  obtain ⟨ya, yb, hqn⟩ := TM.num_node h1 (q := q) (by omega) ht
  exact rmakeA_xn op nt base n c a q s L (by omega) h1 h2 h3 ha hq (TM.nat0 L a).1 (TM.nat0 L a).2.1 (TM.nat0 L a).2.2.1 (TM.nat0 L a).2.2.2 ya yb K rfl hqn w hO hbase D _ hx (fun W h h' => H nt base n c s L K hK hn h1 h2 h3 ha hx W h h')
/-- .. of any place and a number's: are bits in both -/
theorem mk_set {a D : Nat} (ih : ∀ a', a' < a → NumOk 64 a' D) (nt : Bool) (base n c A q : Nat) (s : Option Addr) (L : List TM.N) (K : Int) (hK : TM.W32 K) (hn : n + D < 65536) (h1 : TM.Row L) (h2 : TM.Once L) (h3 : ∀ x ∈ L, TM.okN x) (hA : A < a) (hAn : A < n) (hq : q < n) (ht : TM.tr L q = .num K) (w : World) (hO : OwnN w base s n c L) (hbase : base ≤ w.heap.size) :
    Calls Try.prog 20 #[.slice s n c, .int .i64 64, .int .i64 ((A : Nat) : Int), .int .i64 ((q : Nat) : Int), .bool nt] w fun e w' => AtAt base w s L (TM.csetT (TM.tr L A) K nt) D e w' := by
  have hl := hO.len
  by_cases hx : (TM.nat0 L A).1 = 1
  · obtain ⟨ya, yb, hqn⟩ := TM.num_node h1 (q := q) (by omega) ht
    have hm := TM.nm_row h1 (a := A) (by omega)
    rw [if_pos hx] at hm
    have e := TM.nmT_some hm
    rw [e, TM.csetT]
    exact (rmakeA_nn 64 nt base n c A q s L (by omega) h1 h2 h3 hAn hq (TM.nat0 L A).2.1 (TM.nat0 L A).2.2.1 ya yb (TM.nat0 L A).2.2.2 K (by rw [← hx]) hqn w hO hbase).mono fun _ _ h => h.more (by omega)
  · have := mk_of_num (ih A hA) nt base n c q s L K hK hn h1 h2 h3 hAn hx hq ht w hO hbase
    rw [TM.num_64] at this
    exact this

theorem req_any {a : Nat} (ih : ∀ a', a' < a → NumOk 64 a' (a' + 2)) : NumOk 16 a (a + 1) := by
  intro nt base n c s L k hk hn h1 h2 h3 ha hx w hO hbase
  have hl := hO.len
  rw [TM.num_16]
  have hnm := nm_not h1 (a := a) (by omega) hx
  have ih' : ∀ a', a' < a → NumOk 64 a' (a + 1) := fun a' h nt base n c s L k hk hn h1 h2 h3 ha hx w hO hbase => (ih a' h nt base n c s L k hk (by omega) h1 h2 h3 ha hx w hO hbase).mono fun _ _ h => h.more (by omega)
  rcases TM.chn_nodes h1 (a := a) (by omega) with ⟨A, B, xk, ya, yb, j, hA, hB, hxx, hy, hc⟩ | ⟨hc, hf⟩
  · rw [TM.ceq_on hc]
    have wj : TM.W32 j := by have := (TM.nat0_ok h3 B).2.2.2; rw [hy] at this; exact this
    have htB : TM.tr L B = .num j := by
      have := TM.nm_row h1 (a := B) (by omega)
      rw [hy, if_pos rfl] at this
      exact TM.nmT_some this
    by_cases e1 : TM.told 80 j k = k
    · rw [if_neg (by simpa using e1)]
      by_cases e2 : k = 0
      · rw [if_pos e2]
        exact rnum_eq_set nt base n c a s L k hk (by omega) h1 h2 h3 ha A B hA (by omega) xk ya yb j k hxx hy e1 w hO hbase e2 rfl (a + 1) _ (fun W h h' => mk_set ih' (!nt) base n c A B s L j wj (by omega) h1 h2 h3 hA (by omega) (by omega) htB W h h')
      · rw [if_neg e2]
        exact (rnum_eq_on nt base n c a s L k hk (by omega) h1 h2 h3 ha A B hA (by omega) xk ya yb j k hxx hy e1 w hO hbase e2 rfl).mono fun _ _ h => h.more (by omega)
    · rw [if_pos e1]
      exact (rnum_eq_never nt base n c a s L k hk (by omega) h1 h2 h3 ha A B hA (by omega) xk ya yb j _ hxx hy rfl w hO hbase e1).mono fun _ _ h => h.more (by omega)
  · rw [TM.ceq_flat hnm hc]
    rcases hf with hf | ⟨B, xa, xk, yo, ya, yb, j, hB, hxx, hy, hyo⟩
    · exact (rnum_eq_flat nt base n c a s L k hk (by omega) h1 h2 h3 ha (TM.nat0 L a).1 (TM.nat0 L a).2.1 (TM.nat0 L a).2.2.1 (TM.nat0 L a).2.2.2 rfl hf w hO hbase).mono fun _ _ h => h.more (by omega)
    · exact (rnum_eq_half nt base n c a s L k hk (by omega) h1 h2 h3 ha xa B xk hxx B (by omega) rfl yo ya yb j hy hyo w hO hbase).mono fun _ _ h => h.more (by omega)
theorem rset_any : ∀ a, NumOk 64 a (a + 2) := by
  intro a
  induction a using Nat.strongRecOn with
  | _ a ih =>
    have hq := req_any ih
    intro nt base n c s L k hk hn h1 h2 h3 ha hx w hO hbase
    have hl := hO.len
    rw [TM.num_64]
    have hnm := nm_not h1 (a := a) (by omega) hx
    have hok := TM.tr_okT h1 h3 a (by omega)
    by_cases e0 : k = 0
    · subst e0
      rw [TM.cset_0 hnm]
      exact (rnum_set_0 nt base n c a s L 0 hk (by omega) h1 h2 h3 ha w hO hbase rfl).mono fun _ _ h => h.more (by omega)
    · by_cases ea : k = 4294967295
      · subst ea
        rw [TM.cset_all hnm hok]
        refine (rnum_set_all nt base n c a s L 4294967295 hk (by omega) h1 h2 h3 ha w hO hbase (a + 1) _ (fun s1 n1 c1 L1 q1 W g1 g2 g3 g4 => ?_) rfl).mono fun _ _ h => h.more (by omega)
        have hl1 := g1.len
        have hk1 := g3.keep (i := a) (by omega)
        have := mk_of_num hq (!nt) base n1 c1 q1 s1 L1 0 TM.w0 (by omega) g3.row g3.once g3.ok (by have := g3.len; omega) (by rw [hk1.1]; exact hx) (by have := g3.lt; omega) g3.tr W g1 g2
        rw [TM.num_16, hk1.2] at this
        exact this
      · rcases TM.chn_nodes h1 (a := a) (by omega) with ⟨A, B, xk, ya, yb, j, hA, hB, hxx, hy, hc⟩ | ⟨hc, hf⟩
        · rw [TM.cset_on hc e0 ea]
          refine (rnum_set_on nt base n c a s L k hk (by omega) h1 h2 h3 ha A B hA (by omega) xk ya yb j _ hxx hy rfl w hO hbase (a + 1) _ (fun s1 n1 c1 L1 q1 W g1 g2 g3 g4 => ?_) e0 ea).mono fun _ _ h => h.more (by omega)
          have hl1 := g1.len
          have hk1 := g3.keep (i := A) (by omega)
          have ih' : ∀ a', a' < a → NumOk 64 a' (a + 1) := fun a' h nt base n c s L k hk hn h1 h2 h3 ha hx w hO hbase => (ih a' h nt base n c s L k hk (by omega) h1 h2 h3 ha hx w hO hbase).mono fun _ _ h => h.more (by omega)
          have := mk_set ih' nt base n1 c1 A q1 s1 L1 _ (TM.told_w32 _ _ _) (by omega) g3.row g3.once g3.ok hA (by have := g3.len; omega) (by have := g3.lt; omega) g3.tr W g1 g2
          rw [hk1.2] at this
          exact this
        · rw [TM.cset_flat hnm hc e0 ea]
          rcases hf with hf | ⟨B, xa, xk, yo, ya, yb, j, hB, hxx, hy, hyo⟩
          · exact (rnum_set_flat nt base n c a s L k hk (by omega) h1 h2 h3 ha (TM.nat0 L a).1 (TM.nat0 L a).2.1 (TM.nat0 L a).2.2.1 (TM.nat0 L a).2.2.2 rfl hf w hO hbase e0 ea).mono fun _ _ h => h.more (by omega)
          · exact (rnum_set_half nt base n c a s L k hk (by omega) h1 h2 h3 ha xa B xk hxx B (by omega) rfl yo ya yb j hy hyo w hO hbase e0 ea).mono fun _ _ h => h.more (by omega)
end Go.Proofs.Ytkeigicobcjleaa.TB
