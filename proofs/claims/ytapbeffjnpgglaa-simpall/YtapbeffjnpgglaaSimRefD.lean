/-
  The reference's right of layer 12, where the op's term has a number on its right: as a walk over the Go text; all of right.
-/
import Derived.Test.YtapbeffjnpgglaaSimRefC
namespace Go.Proofs.Ytapbeffjnpgglaa.TM
/-- of a term of the op with a number on its right -/
def onT (op : Int) (x : Tr) (K : Int) : Tr := match nmT x with
  | some i => .num (told op i K)
  | none => rgtT op x K
theorem onT_num {op : Int} {x : Tr} {K i : Int} (h : nmT x = some i) : onT op x K = .num (told op i K) := by unfold onT; rw [h]
theorem onT_on {op : Int} {x : Tr} {K : Int} (h : nmT x = none) : onT op x K = rgtT op x K := by unfold onT; rw [h]
theorem rgtT_on {op : Int} {t x : Tr} {k j : Int} (e1 : ¬ idleB op (shK op k) = true) (e2 : ¬ zeroB op (shK op k) = true) (e3 : ¬ fullB op (shK op k) = true) (h : chn op t = some (x, j)) : rgtT op t k = onT op x (told op j (shK op k)) := by
  rw [rgtT_eq, if_neg e1, if_neg e2, if_neg e3, h]; rfl
theorem rgtT_flat {op : Int} {t : Tr} {k : Int} (e1 : ¬ idleB op (shK op k) = true) (e2 : ¬ zeroB op (shK op k) = true) (e3 : ¬ fullB op (shK op k) = true) (h : chn op t = none) : rgtT op t k = op2 op t (.num (shK op k)) := by
  rw [rgtT_eq, if_neg e1, if_neg e2, if_neg e3, h]
theorem made_number {L L1 : List N} {K : Int} {q : Nat} (h : Made L L1 (.num K) q) : ∃ ya yb, nat0 L1 q = (1, ya, yb, K) := by
  have hn := nm_row h.row h.lt
  rw [h.tr] at hn
  have hn' : some K = if (nat0 L1 q).1 = 1 then some (nat0 L1 q).2.2.2 else none := hn
  split at hn'
  · rename_i g
    injection hn' with e
    refine ⟨(nat0 L1 q).2.1, (nat0 L1 q).2.2.1, ?_⟩
    rw [e, ← g]
  · cases hn'
end Go.Proofs.Ytapbeffjnpgglaa.TM
namespace Go.Proofs.Ytapbeffjnpgglaa.TB
open Go.ChangeShapes Go.WideShapes Go.ChangeAt Go.RowKit
open Go.Sort hiding Below
set_option linter.unusedVariables false
set_option maxRecDepth 100000

/-- what right tells, of places below a -/
def RightBelow (op : Int) (a : Nat) : Prop := ∀ (a' : Nat), a' < a → ∀ (base n c : Nat) (s : Option Addr) (L : List TM.N) (k : Int), TM.W32 k → n + a' + 2 < 65536 → TM.Row L → TM.Once L → (∀ x ∈ L, TM.okN x) → a' < n → (TM.nat0 L a').1 ≠ 1 → ∀ w, OwnN w base s n c L → base ≤ w.heap.size →
  Calls Try.prog 39 #[.slice s n c, .int .i64 op, .int .i64 a', .int .u32 k] w fun e w' => RowAt base w s L (TM.rgtT op (TM.tr L a') k) (TM.clT op (TM.tr L a') + 2) e w'
set_option maxHeartbeats 6400000 in
set_option maxRecDepth 100000 in
theorem rright_chain (op k : Int) (htr : TM.trn op = true) (hk : TM.W32 k) (e1 : ¬ TM.idleB op (TM.shK op k) = true) (e2 : ¬ TM.zeroB op (TM.shK op k) = true) (e3 : ¬ TM.fullB op (TM.shK op k) = true)
    (base n c a A B : Nat) (s : Option Addr) (L : List TM.N) (hn : n + a + 2 < 65536) (h1 : TM.Row L) (h2 : TM.Once L) (h3 : ∀ x ∈ L, TM.okN x) (ha : a < n) (hA : A < a) (hB : B < n) (ih : RightBelow op a) (xo xk : Int) (hx : TM.nat0 L a = (xo, (A : Int), (B : Int), xk)) (hxo : xo = 256 + op) (ya yb j : Int) (hy : TM.nat0 L B = (1, ya, yb, j)) (w : World) (hO : OwnN w base s n c L) (hbase : base ≤ w.heap.size) :
    Calls Try.prog 39 #[.slice s n c, .int .i64 op, .int .i64 a, .int .u32 k] w fun e w' => RowAt base w s L (TM.onT op (TM.tr L A) (TM.told op j (TM.shK op k))) (TM.clT op (TM.tr L A) + 3) e w' := by
  have hl := hO.len
  have hop := TM.trn_op htr
  have h128 : op ≠ 128 := by have := TM.trn_iff.1 htr; omega
  have wj : TM.W32 j := by have := (TM.nat0_ok h3 B).2.2.2; rw [hy] at this; exact this
  obtain ⟨b1, o1, rfl, hly⟩ := hO.lies.ly (by omega)
  obtain ⟨p0, p1, p2, p3⟩ := hly.2 a (by omega)
  rw [TM.nat0_eq (by omega)] at hx
  rw [hx] at p0 p1 p2 p3
  simp only at p0 p1 p2 p3
  have i1 : (a : Int) < (n : Int) := by omega
  have i2 : (B : Int) < (n : Int) := by omega
  have hX := NAt.new w xo A B xk
  obtain ⟨x0, x1, x2, x3, x4⟩ := hX.cells
  simp only at x0 x1 x2 x3
  have hl0 := al w (.cells #[.int .i64 xo, .int .i64 (A : Int), .int .i64 (B : Int), .int .u32 xk] 58)
  obtain ⟨r0, r1, r2, r3⟩ := hly.2 B (by omega)
  rw [TM.nat0_eq (by omega)] at hy
  rw [hy] at r0 r1 r2 r3
  simp only at r0 r1 r2 r3
  replace r0 := (hl0.cell (p := ⟨b1, o1 + B * 4, none⟩) hly.1).trans r0
  replace r1 := (hl0.cell (p := ⟨b1, o1 + B * 4 + 1, none⟩) hly.1).trans r1
  replace r2 := (hl0.cell (p := ⟨b1, o1 + B * 4 + 2, none⟩) hly.1).trans r2
  replace r3 := (hl0.cell (p := ⟨b1, o1 + B * 4 + 3, none⟩) hly.1).trans r3
  have HB0 := hid hl0
  have HO := hid (And.intro hO hbase)
  obtain ⟨k', hk'⟩ : ∃ k', TM.shK op k = k' := ⟨_, rfl⟩
  have wk' : TM.W32 k' := by rw [← hk']; exact TM.shK_w32 hk
  obtain ⟨K, hK⟩ : ∃ K, TM.told op j k' = K := ⟨_, rfl⟩
  have wK : TM.W32 K := by rw [← hK]; exact TM.told_w32 _ _ _
  have HS := hid (fun W => rsum op j k' wj wk' W)
  have HN := hid (fun W (h : OwnN W base (some ⟨b1, o1, none⟩) n c L) (hb : base ≤ W.heap.size) => rnumber base n c (some ⟨b1, o1, none⟩) L K wK (by omega) h1 h2 h3 W h hb)
  have HT := hid (fun W => rturns op W)
  have HMk := hid (fun (s1 : Option Addr) (n1 c1 : Nat) (L1 : List TM.N) (q1 : Nat) (W : World) (g1 : OwnN W base s1 n1 c1 L1) (gb : base ≤ W.heap.size) (gm : TM.Made L L1 (.num K) q1) (gl : L1.length ≤ L.length + 1) =>
    (show Calls Try.prog 15 #[.slice s1 n1 c1, .int .i64 op, .int .i64 (A : Int), .int .i64 ((q1 : Nat) : Int)] W fun e w' => RowAt base W s1 L1 (TM.onT op (TM.tr L A) K) (TM.clT op (TM.tr L A) + 2) e w' by
      obtain ⟨za, zb, hz⟩ := TM.made_number gm
      have hla := gm.len
      have hl1 := g1.len
      have hAl : A < L.length := by omega
      have hkp := gm.keep hAl
      have hnm := TM.nm_row h1 hAl
      have hqn : q1 < n1 := by have := gm.lt; omega
      obtain ⟨uo, ua, ub, uk⟩ : TM.N := TM.nat0 L A
      by_cases g : (TM.nat0 L A).1 = 1
      · rw [if_pos g] at hnm
        rw [TM.onT_num hnm]
        exact (rmake_nn op h128 base n1 c1 A q1 s1 L1 (TM.nat0 L A).2.2.2 K (by omega) gm.row gm.once gm.ok (by omega) hqn (TM.nat0 L A).2.1 (TM.nat0 L A).2.2.1 za zb (by rw [hkp.1, ← g]) hz W g1 gb).mono fun _ _ h => h.more (by omega)
      · rw [if_neg g] at hnm
        rw [TM.onT_on hnm]
        refine rmake_xn op h128 base n1 c1 A q1 (TM.clT op (TM.tr L A) + 2) s1 L1 K _ (by omega) (by omega) hqn (TM.nat0 L A).1 (TM.nat0 L A).2.1 (TM.nat0 L A).2.2.1 (TM.nat0 L A).2.2.2 za zb g hkp.1 hz W g1 gb fun W' h1' h2' => ?_
        rw [← hkp.2]
        exact (ih A hA base n1 c1 s1 L1 K wK (by omega) gm.row gm.once gm.ok (by omega) (by rw [hkp.1]; exact g) W' h1' h2').mono fun _ _ h => h.more (by omega)))
  have hrest := TM.rest_cases hop h128 e1 e2 e3
  have hq1 : (k' == 1) = false ∨ k' = 1 := by by_cases h : k' = 1; exact .inr h; exact .inl (beq_eq_false_iff_ne.2 h)
  have hqF : (k' == 4294967295) = false ∨ k' = 4294967295 := by by_cases h : k' = 4294967295; exact .inr h; exact .inl (beq_eq_false_iff_ne.2 h)
  have htn := TM.trn_iff.1 htr
  have hz : (k' == 0) = false := by
    rw [beq_eq_false_iff_ne, ← hk']; unfold TM.shK; split <;> omega
  obtain rfl : k = k' := by rw [← hk']; unfold TM.shK; rw [if_neg (by omega)]
  rw [hk', hK]
  rw [hK] at HS
  have hxq : (xo == 256 + op) = true := beq_iff_eq.2 hxo
  clear hO hbase h1 h2 h3 hx hX hly hl0 hl hk e1 e2 e3 wk' hk' x4 hn ha hA hB ih hy wj wK hxo hop h128 hK
  rcases hrest with ⟨rfl, hr⟩ | ⟨rfl, hr⟩ | ⟨rfl, hr⟩ | ⟨rfl, hr⟩ | ⟨rfl, hr⟩ | ⟨rfl, hr⟩ | ⟨rfl, hr⟩ | ⟨rfl, hr⟩ | ⟨rfl, hr⟩
  all_goals first
    | (exfalso; revert htr; decide)
    | skip
  all_goals
    clear htn
    rcases hq1 with hq1 | rfl
  all_goals
    rcases hqF with hqF | hqF
  all_goals try subst hqF
  all_goals first
    | (exfalso; omega)
    | (exfalso; simp at hq1; done)
    | skip
  all_goals try simp only [Int.reduceAdd] at hxq
  all_goals
    go_enter Try.func39, Try.ntmps39
    go_wp2_with fail
    refine (HT.out _).mono ?_
    rintro e w2 ⟨rfl, rfl⟩
    rw [htr]
    go_wp2_with fail
    refine (HS.out _).mono ?_
    rintro e w3 ⟨rfl, hb⟩
    have HB := hid (HB0.out.trans (hb.mono HB0.out.size))
    have x1' := (hb.cell (p := ⟨w.heap.size, 1, none⟩) (by simp)).trans x1
    clear hb HS x0 x1 x2 x3 p0 p1 p2 p3 r0 r1 r2 r3
    go_wp2_with fail
    refine (HN.out _ (HO.out.1.below HB.out) (Nat.le_trans HO.out.2 HB.out.size)).mono ?_
    rintro e w4 ⟨s1, n1, c1, L1, q1, rfl, g1, g2, g3, g4, g5, g6⟩
    have HG := hid (And.intro g1 (And.intro g2 (And.intro g3 (And.intro g4 (And.intro g5 g6)))))
    have x1'' : w4.cell? ⟨w.heap.size, 1, none⟩ = some (.int .i64 (A : Int)) := by
      obtain ⟨g, hg, _, hgw⟩ := own_form HO.out.1 (by have := HO.out.1.len; omega)
      injection hg with hg
      injection hg with hg _
      have hlt : w.heap.size < w3.heap.size := World.block_lt_of_cell? _ _ x1'
      have e := g2.block w.heap.size hlt (by simp [blk]; omega)
      exact (World.cell?_of_block e).trans x1'
    clear g1 g2 g3 g4 g5 g6 HN x1'
    go_wp2_with fail
    refine (HMk.out s1 n1 c1 L1 q1 _ HG.out.1 (Nat.le_trans HO.out.2 (Nat.le_trans HB.out.size HG.out.2.1.size)) HG.out.2.2.2.2.1 HG.out.2.2.2.2.2).mono ?_
    rintro e w5 ⟨s2, n2, c2, L2, q2, rfl, f1⟩
    have HZ := hid f1
    clear f1 HMk x1''
    go_wp2
    go_ret2
    have hfin := RowAt.of_below HB.out (RowAt.comp (B := 1) (C := _) (HO.out.1.below HB.out) HG.out.1 HG.out.2.1 HG.out.2.2.1 HG.out.2.2.2.1 HG.out.2.2.2.2.1 HG.out.2.2.2.2.2 ⟨s2, n2, c2, L2, q2, rfl, HZ.out⟩)
    exact hfin.more (by omega)

theorem rright_any (op : Int) (hop : TM.isOp op = true) (h128 : op ≠ 128) : ∀ a, RightBelow op a := by
  intro a
  induction a with
  | zero => intro a' h; omega
  | succ a ih =>
    intro a' ha'
    by_cases e : a' < a
    · exact ih a' e
    · obtain rfl : a' = a := by omega
      intro base n c s L k hk hn h1 h2 h3 ha hx1 w hO hbase
      have hl := hO.len
      by_cases e1 : TM.idleB op (TM.shK op k) = true
      · rw [TM.rgtT_eq, if_pos e1]
        exact (rright_idle op k hk e1 base n c a' s L h1 h2 h3 ha w hO).mono fun _ _ h => h.more (by omega)
      by_cases e2 : TM.zeroB op (TM.shK op k) = true
      · rw [TM.rgtT_eq, if_neg e1, if_pos e2]
        exact (rright_const op k 0 (.inl ⟨e2, rfl⟩) base n c a' s L (by omega) h1 h2 h3 w hO hbase).mono fun _ _ h => h.more (by omega)
      by_cases e3 : TM.fullB op (TM.shK op k) = true
      · rw [TM.rgtT_eq, if_neg e1, if_neg e2, if_pos e3]
        exact (rright_const op k 4294967295 (.inr ⟨e3, rfl⟩) base n c a' s L (by omega) h1 h2 h3 w hO hbase).mono fun _ _ h => h.more (by omega)
      have hc := TM.chn_row h1 (a := a') (by omega) h128
      have mi := TM.may_ok (h1.2 a' (by omega))
      obtain ⟨xo, xa, xb, xk⟩ : TM.N := TM.nat0 L a'
      by_cases g : TM.trn op = true ∧ (TM.nat0 L a').1 = 256 + op ∧ (TM.nat0 L (TM.nat0 L a').2.2.1.toNat).1 = 1
      · rw [if_pos g] at hc
        rw [TM.rgtT_on e1 e2 e3 hc, show TM.clT op (TM.tr L a') + 2 = TM.clT op (TM.tr L (TM.nat0 L a').2.1.toNat) + 3 by rw [TM.clT_on hc]; omega]
        obtain ⟨g1, g2, g3⟩ := g
        have ht := TM.trn_iff.1 g1
        have hp : 0 ≤ (TM.nat0 L a').2.1 ∧ (TM.nat0 L a').2.1 < a' ∧ 0 ≤ (TM.nat0 L a').2.2.1 ∧ (TM.nat0 L a').2.2.1 < a' := by omega
        refine rright_chain op k g1 hk e1 e2 e3 base n c a' (TM.nat0 L a').2.1.toNat (TM.nat0 L a').2.2.1.toNat s L hn h1 h2 h3 ha (by omega) (by omega) ih (TM.nat0 L a').1 (TM.nat0 L a').2.2.2 ?_ g2 (TM.nat0 L (TM.nat0 L a').2.2.1.toNat).2.1 (TM.nat0 L (TM.nat0 L a').2.2.1.toNat).2.2.1 _ ?_ w hO hbase
        · rw [Int.toNat_of_nonneg hp.1, Int.toNat_of_nonneg hp.2.2.1]
        · rw [← g3]
      · rw [if_neg g] at hc
        rw [TM.rgtT_flat e1 e2 e3 hc]
        refine (rright_flat op k hop h128 hk e1 e2 e3 base n c a' s L (by omega) h1 h2 h3 ha (TM.nat0 L a').1 (TM.nat0 L a').2.1 (TM.nat0 L a').2.2.1 (TM.nat0 L a').2.2.2 rfl w hO hbase ?_).mono fun _ _ h => h.more (by omega)
        cases ht : TM.trn op with
        | false => exact .inl rfl
        | true =>
          by_cases g2 : (TM.nat0 L a').1 = 256 + op
          · have ht2 := TM.trn_iff.1 ht
            have hp : 0 ≤ (TM.nat0 L a').2.2.1 ∧ (TM.nat0 L a').2.2.1 < a' := by omega
            exact .inr (.inr ⟨g2, (TM.nat0 L a').2.2.1.toNat, by rw [Int.toNat_of_nonneg hp.1], by omega, fun g3 => g ⟨ht, g2, g3⟩⟩)
          · exact .inr (.inl g2)
end Go.Proofs.Ytapbeffjnpgglaa.TB
