/-
  The reference's right of layer 12 (a number on the right), as a walk over the Go text.
-/
import Derived.Test.YtapbeffjnpgglaaSimRefB
namespace Go.Proofs.Ytapbeffjnpgglaa.TM
theorem idle_cases {op k : Int} (h : idleB op (shK op k) = true) : (op = 0 ∧ k = 0) ∨ (op = 16 ∧ k = 0) ∨ (op = 64 ∧ k = 0) ∨ (op = 160 ∧ k = 0) ∨ (op = 96 ∧ k % 32 = 0) ∨ (op = 112 ∧ k % 32 = 0) ∨ (op = 32 ∧ k = 1) ∨ (op = 48 ∧ k = 1) ∨ (op = 80 ∧ k = 4294967295) := by
  unfold idleB shK at h
  simp only [Bool.or_eq_true, Bool.and_eq_true, beq_iff_eq] at h
  by_cases hs : op = 96 ∨ op = 112
  · rw [if_pos hs] at h
    rcases hs with rfl | rfl
    · simp at h; simp [h]
    · simp at h; simp [h]
  · rw [if_neg hs] at h
    rcases h with (⟨e, h⟩ | ⟨e, h⟩) | ⟨e, h⟩
    · rcases h with ((((rfl | rfl) | rfl) | rfl) | rfl) | rfl
      · simp [e]
      · simp [e]
      · simp [e]
      · simp [e]
      · exact absurd (.inl rfl) hs
      · exact absurd (.inr rfl) hs
    · rcases h with rfl | rfl <;> simp [e]
    · subst h; simp [e]
theorem zero_cases {op k : Int} (h : zeroB op (shK op k) = true) : (op = 32 ∧ k = 0) ∨ (op = 80 ∧ k = 0) ∨ (op = 48 ∧ k = 0) := by
  unfold zeroB shK at h
  simp only [Bool.or_eq_true, Bool.and_eq_true, beq_iff_eq] at h
  split at h <;> omega
theorem full_cases {op k : Int} (h : fullB op (shK op k) = true) : op = 64 ∧ k = 4294967295 := by
  unfold fullB shK at h
  simp only [Bool.and_eq_true, beq_iff_eq] at h
  split at h <;> omega
theorem rest_cases {op k : Int} (hop : isOp op = true) (h2 : op ≠ 128) (e1 : ¬ idleB op (shK op k) = true) (e2 : ¬ zeroB op (shK op k) = true) (e3 : ¬ fullB op (shK op k) = true) :
    (op = 0 ∧ k ≠ 0) ∨ (op = 16 ∧ k ≠ 0) ∨ (op = 32 ∧ k ≠ 0 ∧ k ≠ 1) ∨ (op = 48 ∧ k ≠ 0 ∧ k ≠ 1) ∨ (op = 64 ∧ k ≠ 0 ∧ k ≠ 4294967295) ∨ (op = 80 ∧ k ≠ 0 ∧ k ≠ 4294967295) ∨ (op = 96 ∧ k % 32 ≠ 0) ∨ (op = 112 ∧ k % 32 ≠ 0) ∨ (op = 160 ∧ k ≠ 0) := by
  unfold idleB at e1
  unfold zeroB at e2
  unfold fullB at e3
  simp only [Bool.or_eq_true, Bool.and_eq_true, beq_iff_eq] at e1 e2 e3
  unfold shK at e1 e2 e3
  rcases isOp_iff.1 hop with rfl | rfl | rfl | rfl | rfl | rfl | rfl | rfl | rfl | rfl
  all_goals simp at e1 e2 e3 h2 ⊢
  all_goals omega
end Go.Proofs.Ytapbeffjnpgglaa.TM
namespace Go.Proofs.Ytapbeffjnpgglaa.TB
open Go.ChangeShapes Go.WideShapes Go.ChangeAt Go.RowKit
open Go.Sort hiding Below
set_option linter.unusedVariables false
set_option maxRecDepth 100000

set_option maxHeartbeats 3200000 in
set_option maxRecDepth 100000 in
theorem rright_idle (op k : Int) (hk : TM.W32 k) (hi : TM.idleB op (TM.shK op k) = true) (base n c a : Nat) (s : Option Addr) (L : List TM.N) (h1 : TM.Row L) (h2 : TM.Once L) (h3 : ∀ x ∈ L, TM.okN x) (ha : a < n) (w : World) (hO : OwnN w base s n c L) :
    Calls Try.prog 39 #[.slice s n c, .int .i64 op, .int .i64 a, .int .u32 k] w fun e w' => RowAt base w s L (TM.tr L a) 0 e w' := by
  have HR := hid (RowAt.here hO (Below.refl _ _) h1 h2 h3 (by rw [hO.len]; exact ha) 0)
  have hk0 := hk.1
  rcases TM.idle_cases hi with ⟨rfl, rfl⟩ | ⟨rfl, rfl⟩ | ⟨rfl, rfl⟩ | ⟨rfl, rfl⟩ | ⟨rfl, e⟩ | ⟨rfl, e⟩ | ⟨rfl, rfl⟩ | ⟨rfl, rfl⟩ | ⟨rfl, rfl⟩
  case' inr.inr.inr.inr.inl => have et : k.tmod 32 = 0 := by rw [Int.tmod_eq_emod_of_nonneg hk0]; exact e
  case' inr.inr.inr.inr.inr.inl => have et : k.tmod 32 = 0 := by rw [Int.tmod_eq_emod_of_nonneg hk0]; exact e
  all_goals
    clear hi hO h1 h2 h3 hk
    go_enter Try.func39, Try.ntmps39
    go_wp2
    go_ret2
    exact HR.out
set_option maxHeartbeats 3200000 in
set_option maxRecDepth 100000 in
theorem rright_const (op k v : Int) (hv : (TM.zeroB op (TM.shK op k) = true ∧ v = 0) ∨ (TM.fullB op (TM.shK op k) = true ∧ v = 4294967295)) (base n c a : Nat) (s : Option Addr) (L : List TM.N) (hn : n < 65536) (h1 : TM.Row L) (h2 : TM.Once L) (h3 : ∀ x ∈ L, TM.okN x) (w : World) (hO : OwnN w base s n c L) (hbase : base ≤ w.heap.size) :
    Calls Try.prog 39 #[.slice s n c, .int .i64 op, .int .i64 a, .int .u32 k] w fun e w' => RowAt base w s L (.num v) 1 e w' := by
  have HN := hid (rnumber base n c s L v (by unfold TM.W32; omega) hn h1 h2 h3 w hO hbase)
  have hc : (op = 32 ∧ k = 0 ∧ v = 0) ∨ (op = 80 ∧ k = 0 ∧ v = 0) ∨ (op = 48 ∧ k = 0 ∧ v = 0) ∨ (op = 64 ∧ k = 4294967295 ∧ v = 4294967295) := by
    rcases hv with ⟨h, rfl⟩ | ⟨h, rfl⟩
    · have := TM.zero_cases h; omega
    · have := TM.full_cases h; omega
  clear hv hO h1 h2 h3 hbase
  rcases hc with ⟨rfl, rfl, rfl⟩ | ⟨rfl, rfl, rfl⟩ | ⟨rfl, rfl, rfl⟩ | ⟨rfl, rfl, rfl⟩
  all_goals
    go_enter Try.func39, Try.ntmps39
    go_wp2_with fail
    refine HN.out.mono ?_
    rintro e w3 ⟨s', n', c', L', p, rfl, g1⟩
    have HG := hid g1
    clear g1 HN
    go_wp2
    go_ret2
    exact ⟨s', n', c', L', p, rfl, HG.out⟩
/-- a node of an op of a and a number's place, put -/
theorem put_op2 {op : Int} (hop : TM.isOp op = true) (h2 : op ≠ 128) {L1 : List TM.N} {t : TM.Tr} {a p1 : Nat} (hr : TM.Row L1) (ho : TM.Once L1) (hk : ∀ x ∈ L1, TM.okN x) (hn : L1.length < 65536) (ha : a < L1.length) (hp : p1 < L1.length) (ht : TM.tr L1 a = t) {u : TM.Tr} (hu : TM.tr L1 p1 = u) (o : Int) (eo : o = 256 + op) {m : List TM.N} {p : Nat} (h : TM.putN L1 (o, (a : Int), (p1 : Int), 0) = (m, p)) :
    TM.Made L1 m (TM.op2 op t u) p ∧ m.length ≤ L1.length + 1 := by
  have hA : TM.isA o = true := by unfold TM.isOp at hop; rw [eo, Int.add_comm]; exact hop
  have h384 : o ≠ 384 := by omega
  have hm : TM.may (o, (a : Int), (p1 : Int), 0) L1.length = true := by
    rw [TM.may_two (x := (o, (a : Int), (p1 : Int), 0)) hA h384]
    simp; omega
  have hO := TM.isA_12 hA
  have hM := TM.Made.put hr ho hk hn (x := (o, (a : Int), (p1 : Int), 0)) ⟨by dsimp only; omega, by dsimp only; omega, by dsimp only; omega, by dsimp only; omega⟩ hm h
  rw [TM.trN_two (x := (o, (a : Int), (p1 : Int), 0)) hA h384] at hM
  simp only [Int.toNat_natCast] at hM
  rw [ht, hu, show o - 256 = op by omega] at hM
  have hlen := (TM.putN_len L1 (o, (a : Int), (p1 : Int), 0)).2
  rw [h] at hlen
  exact ⟨hM, hlen⟩
set_option maxHeartbeats 6400000 in
set_option maxRecDepth 100000 in
theorem rright_flat (op k : Int) (hop : TM.isOp op = true) (h128 : op ≠ 128) (hk : TM.W32 k) (e1 : ¬ TM.idleB op (TM.shK op k) = true) (e2 : ¬ TM.zeroB op (TM.shK op k) = true) (e3 : ¬ TM.fullB op (TM.shK op k) = true)
    (base n c a : Nat) (s : Option Addr) (L : List TM.N) (hn : n + 1 < 65536) (h1 : TM.Row L) (h2 : TM.Once L) (h3 : ∀ x ∈ L, TM.okN x) (ha : a < n) (xo xa xb xk : Int) (hx : TM.nat0 L a = (xo, xa, xb, xk)) (w : World) (hO : OwnN w base s n c L) (hbase : base ≤ w.heap.size)
    (hno : TM.trn op = false ∨ xo ≠ 256 + op ∨ (xo = 256 + op ∧ ∃ B : Nat, xb = B ∧ B < n ∧ (TM.nat0 L B).1 ≠ 1)) :
    Calls Try.prog 39 #[.slice s n c, .int .i64 op, .int .i64 a, .int .u32 k] w fun e w' => RowAt base w s L (TM.op2 op (TM.tr L a) (.num (TM.shK op k))) 2 e w' := by
  have hl := hO.len
  obtain ⟨b1, o1, rfl, hly⟩ := hO.lies.ly (by omega)
  obtain ⟨p0, p1, p2, p3⟩ := hly.2 a (by omega)
  rw [TM.nat0_eq (by omega)] at hx
  rw [hx] at p0 p1 p2 p3
  simp only at p0 p1 p2 p3
  have i1 : (a : Int) < (n : Int) := by omega
  have hX := NAt.new w xo xa xb xk
  obtain ⟨x0, x1, x2, x3, x4⟩ := hX.cells
  simp only at x0 x1 x2 x3
  have hl0 := al w (.cells #[.int .i64 xo, .int .i64 xa, .int .i64 xb, .int .u32 xk] 58)
  have HB0 := hid hl0
  have HO := hid (And.intro hO hbase)
  obtain ⟨k', hk'⟩ : ∃ k', TM.shK op k = k' := ⟨_, rfl⟩
  have wk' : TM.W32 k' := by rw [← hk']; exact TM.shK_w32 hk
  have HN := hid (fun W (h : OwnN W base (some ⟨b1, o1, none⟩) n c L) (hb : base ≤ W.heap.size) => rnumber base n c (some ⟨b1, o1, none⟩) L k' wk' (by omega) h1 h2 h3 W h hb)
  have HT := hid (fun W => rturns op W)
  have HPut := hid (fun (o : Int) (eo : o = 256 + op) (s1 : Option Addr) (n1 c1 : Nat) (L1 : List TM.N) (q1 : Nat) (W : World) (g1 : OwnN W base s1 n1 c1 L1) (gb : base ≤ W.heap.size) (gm : TM.Made L L1 (.num k') q1) (gl : L1.length ≤ L.length + 1) =>
    (show Calls Try.prog 32 #[.slice s1 n1 c1, .agg #[.int .i64 o, .int .i64 (a : Int), .int .i64 ((q1 : Nat) : Int), .int .u32 0]] W fun e w' => RowAt base W s1 L1 (TM.op2 op (TM.tr L a) (.num k')) 1 e w' by
      obtain ⟨m, p, hp⟩ : ∃ m p, TM.putN L1 (o, (a : Int), (q1 : Int), 0) = (m, p) := ⟨_, _, rfl⟩
      have hla := gm.len
      obtain ⟨hM, hML⟩ := put_op2 hop h128 gm.row gm.once gm.ok (by omega) (by omega) gm.lt (gm.keep (i := a) (by omega)).2 gm.tr o eo hp
      exact (rput_keep base n1 c1 s1 L1 o a q1 0 (by have := g1.len; omega) W g1 gb m p hp).mono fun _ _ ⟨s', n', c', k1, k2, k3, k4, k5⟩ => ⟨s', n', c', m, p, k1, k2, k3, k4, k5, hM, hML⟩))
  have hrest := TM.rest_cases hop h128 e1 e2 e3
  have hq1 : (k' == 1) = false ∨ k' = 1 := by by_cases h : k' = 1; exact .inr h; exact .inl (beq_eq_false_iff_ne.2 h)
  have hqF : (k' == 4294967295) = false ∨ k' = 4294967295 := by by_cases h : k' = 4294967295; exact .inr h; exact .inl (beq_eq_false_iff_ne.2 h)
  have hk0 := hk.1
  have htm : k.tmod 32 = k % 32 := Int.tmod_eq_emod_of_nonneg hk0
  have hz : (k' == 0) = false := by
    rw [beq_eq_false_iff_ne, ← hk']; unfold TM.shK; split <;> omega
  have hshift : (op = 96 ∨ op = 112) → k.tmod 32 = k' := fun h => by rw [htm, ← hk']; unfold TM.shK; rw [if_pos h]
  have hplain : ¬ (op = 96 ∨ op = 112) → k = k' := fun h => by rw [← hk']; unfold TM.shK; rw [if_neg h]
  rw [hk']
  have hnode : TM.trn op = false ∨ (TM.trn op = true ∧ (xo == 256 + op) = false) ∨ (TM.trn op = true ∧ (xo == 256 + op) = true ∧ ∃ B : Nat, xb = B ∧ B < n ∧ ∃ yo ya yb yk : Int, (yo == 1) = false ∧
      ((w.alloc (.cells #[.int .i64 xo, .int .i64 xa, .int .i64 xb, .int .u32 xk] 58)).cell? ⟨b1, o1 + B * 4, none⟩ = some (.int .i64 yo) ∧ (w.alloc (.cells #[.int .i64 xo, .int .i64 xa, .int .i64 xb, .int .u32 xk] 58)).cell? ⟨b1, o1 + B * 4 + 1, none⟩ = some (.int .i64 ya) ∧ (w.alloc (.cells #[.int .i64 xo, .int .i64 xa, .int .i64 xb, .int .u32 xk] 58)).cell? ⟨b1, o1 + B * 4 + 2, none⟩ = some (.int .i64 yb) ∧ (w.alloc (.cells #[.int .i64 xo, .int .i64 xa, .int .i64 xb, .int .u32 xk] 58)).cell? ⟨b1, o1 + B * 4 + 3, none⟩ = some (.int .u32 yk))) := by
    cases ht : TM.trn op with
    | false => exact .inl rfl
    | true =>
      rcases hno with h | h | ⟨h, B, hB, hBn, hB1⟩
      · rw [ht] at h; cases h
      · exact .inr (.inl ⟨rfl, beq_eq_false_iff_ne.2 h⟩)
      · refine .inr (.inr ⟨rfl, beq_iff_eq.2 h, B, hB, hBn, ?_⟩)
        obtain ⟨r0, r1, r2, r3⟩ := hly.2 B (by omega)
        rw [TM.nat0_eq (by omega)] at hB1
        generalize L[B] = y at *
        obtain ⟨yo, ya, yb, yk⟩ := y
        exact ⟨yo, ya, yb, yk, beq_eq_false_iff_ne.2 hB1, (hl0.cell (p := ⟨b1, o1 + B * 4, none⟩) hly.1).trans r0, (hl0.cell (p := ⟨b1, o1 + B * 4 + 1, none⟩) hly.1).trans r1, (hl0.cell (p := ⟨b1, o1 + B * 4 + 2, none⟩) hly.1).trans r2, (hl0.cell (p := ⟨b1, o1 + B * 4 + 3, none⟩) hly.1).trans r3⟩
  clear hO hbase h1 h2 h3 hx hX hno hly hl0 hl hk e1 e2 e3 wk' hk' htm hk0 x4 hn ha
  rcases hnode with ht | ⟨ht, hxo⟩ | ⟨ht, hxo, B, rfl, hB, yo, ya, yb, yk, hyo, r0, r1, r2, r3⟩
  case' inr.inr => have i2 : (B : Int) < (n : Int) := by omega
  all_goals
    rcases hrest with ⟨rfl, hr⟩ | ⟨rfl, hr⟩ | ⟨rfl, hr⟩ | ⟨rfl, hr⟩ | ⟨rfl, hr⟩ | ⟨rfl, hr⟩ | ⟨rfl, hr⟩ | ⟨rfl, hr⟩ | ⟨rfl, hr⟩
  all_goals first
    | (exfalso; revert ht; decide)
    | skip
  all_goals first
    | (have hs := hshift (by decide); clear hshift hplain)
    | (obtain rfl := hplain (by decide); clear hshift hplain)
  all_goals
    rcases hq1 with hq1 | rfl
  all_goals
    rcases hqF with hqF | hqF
  all_goals try subst hqF
  all_goals first
    | (exfalso; omega)
    | (exfalso; simp at hq1; done)
    | skip
  all_goals try simp only [Int.reduceAdd] at hxo
  all_goals
    go_enter Try.func39, Try.ntmps39
    go_wp2_with fail
    refine (HT.out _).mono ?_
    rintro e w2 ⟨rfl, rfl⟩
    rw [ht]
    go_wp2_with fail
    refine (HN.out _ (HO.out.1.below HB0.out) (Nat.le_trans HO.out.2 HB0.out.size)).mono ?_
    rintro e w3 ⟨s1, n1, c1, L1, q1, rfl, g1, g2, g3, g4, g5, g6⟩
    have HG := hid (And.intro g1 (And.intro g2 (And.intro g3 (And.intro g4 (And.intro g5 g6)))))
    clear g1 g2 g3 g4 g5 g6 HN x0 x1 x2 x3 p0 p1 p2 p3
    go_wp2_with fail
    refine (HPut.out _ (by first | rfl | decide | omega) s1 n1 c1 L1 q1 _ HG.out.1 (Nat.le_trans HO.out.2 (Nat.le_trans HB0.out.size HG.out.2.1.size)) HG.out.2.2.2.2.1 HG.out.2.2.2.2.2).mono ?_
    rintro e w4 ⟨s2, n2, c2, L2, q2, rfl, f1⟩
    have HZ := hid f1
    clear f1 HPut
    go_wp2
    go_ret2
    exact RowAt.of_below HB0.out (RowAt.comp (C := 1) (HO.out.1.below HB0.out) HG.out.1 HG.out.2.1 HG.out.2.2.1 HG.out.2.2.2.1 HG.out.2.2.2.2.1 HG.out.2.2.2.2.2 ⟨s2, n2, c2, L2, q2, rfl, HZ.out⟩)
end Go.Proofs.Ytapbeffjnpgglaa.TB
