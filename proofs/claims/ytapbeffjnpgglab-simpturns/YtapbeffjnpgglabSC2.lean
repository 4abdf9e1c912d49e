/-
  The program's rules of layer 12 over term's pool: byRules, as a walk over the Go text.
-/
import Derived.Test.YtapbeffjnpgglabSimByP
namespace Go.Proofs.Ytapbeffjnpgglab.TB
open Go.ChangeShapes Go.WideShapes Go.ChangeAt Go.RowKit
open Go.Sort hiding Below
set_option linter.unusedVariables false
set_option maxRecDepth 100000

theorem bnd2P {Pl : PoolIs} {W : World} {F : Nat → Prop} {v : Value} {L : List TM.N} {t : TM.Tr} {e : Ending} {w' : World} (h : PoolAt Pl W F v L t 1 e w') : PoolAt Pl W F v L t 2 e w' := h.mono (by omega)

/-- rules that take two terms -/
theorem cnumNP (W : World) (F : Nat → Prop) (v : Value) (L : List TM.N) (h : Pl W F v L) (h1 : TM.Row L) (i : Nat) (hi : i < L.length) (o a b k : Int) (hx : TM.nat0 L i = (o, a, b, k)) :
    Calls Try.prog 31 #[.iface 29 v, .int .i64 i] W fun e w' => e = .returned (.tuple #[.int .u32 k, .bool (o == 1)]) ∧ Below W.heap.size W w' :=
  cnumAtP W F v L h i hi o a b k (by rw [← TM.nat0_eq hi]; exact hx)

set_option maxHeartbeats 6400000 in
theorem cby2P (W : World) (F : Nat → Prop) (v : Value) (L : List TM.N) (h : Pl W F v L) (h1 : TM.Row L) (h2 : TM.Once L) (h3 : ∀ x ∈ L, TM.okN x) (hn : L.length < 65530) (op : Int) (ho : TM.isOp op = true) (ho2 : op ≠ 128) (a b : Nat) (ha : a < L.length) (hb : b < L.length) :
    Calls Try.prog 20 #[.iface 29 v, .int .i64 op, .int .i64 a, .int .i64 b] W fun e w' => PoolAt Pl W F v L (TM.mkT op (TM.tr L a) (TM.tr L b)) 2 e w' := by
  have hm := metPP
  have hw := binOp_add_opP ho
  have o1 : (op == 128) = false := beq_eq_false_iff_ne.2 ho2
  have hna := TM.nm_row h1 ha
  have hnb := TM.nm_row h1 hb
  have hka := (TM.nat0_ok h3 a).2.2.2
  have hkb := (TM.nat0_ok h3 b).2.2.2
  obtain ⟨x, hx⟩ : ∃ x, TM.nat0 L a = x := ⟨_, rfl⟩
  obtain ⟨y, hy⟩ : ∃ y, TM.nat0 L b = y := ⟨_, rfl⟩
  rw [hx] at hna hka
  rw [hy] at hnb hkb
  obtain ⟨xo, xa, xb, xk⟩ := x
  obtain ⟨yo, ya, yb, yk⟩ := y
  simp only at hna hnb hka hkb
  have HLt := hid (show ∀ w1, Below W.heap.size W w1 → Pl w1 F v L from fun w1 hb => pl_below h hb)
  have HA := hid (show ∀ w1, Below W.heap.size W w1 → Calls Try.prog 31 #[.iface 29 v, .int .i64 (a : Int)] w1 fun e w' => e = .returned (.tuple #[.int .u32 xk, .bool (xo == 1)]) ∧ Below w1.heap.size w1 w' from fun w1 hb => cnumNP w1 F v L (HLt.out w1 hb) h1 a ha xo xa xb xk hx)
  have HBn := hid (show ∀ w1, Below W.heap.size W w1 → Calls Try.prog 31 #[.iface 29 v, .int .i64 (b : Int)] w1 fun e w' => e = .returned (.tuple #[.int .u32 yk, .bool (yo == 1)]) ∧ Below w1.heap.size w1 w' from fun w1 hb => cnumNP w1 F v L (HLt.out w1 hb) h1 b ‹b < L.length› yo ya yb yk hy)
  have HOf := hid (show ∀ w1, Below W.heap.size W w1 → ∀ (c : Nat), c < L.length → ∀ k, TM.W32 k → Calls Try.prog 32 #[.iface 29 v, .int .i64 op, .int .i64 (c : Int), .int .u32 k] w1 fun e w' => PoolAt Pl w1 F v L (TM.ofN op (TM.tr L c) k) 2 e w' from fun w1 hb c hc k hk => cofNP w1 F v L (HLt.out w1 hb) h1 h2 h3 hn op ho ho2 c hc k hk)
  have HTn := hid (fun w => cturns op ho w)
  have HNm := hid (show ∀ w1, Below W.heap.size W w1 → Calls Try.prog 18 #[.iface 29 v, .int .u32 0] w1 fun e w' => PoolAt Pl w1 F v L (.num 0) 2 e w' from fun w1 hb => (cnumberP w1 F v L (HLt.out w1 hb) h1 h2 h3 (by omega) 0 ⟨by omega, by omega⟩).mono (fun e w' h => bnd2P h))
  have HPt := hid (show ∀ w1, Below W.heap.size W w1 → Calls Try.prog 17 #[v, .agg #[.int .i64 (256 + op), .int .i64 (a : Int), .int .i64 (b : Int), .int .u32 0]] w1 fun e w' => PoolAt Pl w1 F v L (TM.op2 op (TM.tr L a) (TM.tr L b)) 2 e w' from fun w1 hb => by
    have q := qputP w1 F v L (HLt.out w1 hb) h1 h2 h3 (by omega) (256 + op) a b 0 (TM.ok_op2 ho (by omega) (by omega)) (TM.may_op2 ho ho2 ha ‹b < L.length›)
    rw [TM.tr_op2 ho ho2] at q
    exact q.mono (fun e w' h => bnd2P h))
  have HH := hid (And.intro h (And.intro h1 (And.intro h2 (And.intro h3 (And.intro ha hb)))))
  have HI := hid (fun (e : TM.tr L a = TM.tr L b) => TM.tr_inj h1 h3 h2 a b ha hb e)
  by_cases c1 : yo = 1
  · subst c1
    rw [if_pos rfl] at hnb
    have HE := hid (show TM.ofN op (TM.tr L a) yk = TM.mkT op (TM.tr L a) (TM.tr L b) from by
      cases e : TM.nmT (TM.tr L a) with
      | some i => rw [TM.ofN_num e, TM.mkT_nn ho2 e hnb]
      | none => rw [TM.ofN_none e, TM.mkT_0n ho2 e hnb])
    have hk : TM.W32 yk := hkb
    clear h h1 h2 h3 hn ho ho2 hna hnb hka hx hy HA HTn HNm HPt HI hw
    go_enter Try.func20, Try.ntmps20
    go_wp2_with (first
      | (go_at_call 31; refine (HBn.out _ (Below.refl _ _)).mono ?_; clear HBn; rintro e w1 ⟨rfl, hb1⟩; have HB := hid hb1; clear hb1)
      | (go_at_call 32; refine (HOf.out _ HB.out a ha _ hk).mono ?_; clear HOf; rintro e w2 hZ; replace hZ := PoolAt.below HB.out hZ; rw [HE.out] at hZ; obtain ⟨F9, L9, p9, rfl, hZ⟩ := hZ; have HZ := hid hZ; clear hZ HB HE))
    go_ret2
    exact ⟨F9, L9, p9, rfl, HZ.out⟩
  · rw [if_neg c1] at hnb
    have d1 : (yo == 1) = false := beq_eq_false_iff_ne.2 c1
    rw [d1] at HBn
    by_cases c2 : xo = 1
    · subst c2
      rw [if_pos rfl] at hna
      cases g : TM.trn op with
      | true =>
        rw [g] at HTn
        have HE := hid (show TM.ofN op (TM.tr L b) xk = TM.mkT op (TM.tr L a) (TM.tr L b) from by rw [TM.ofN_none hnb, TM.mkT_n0 ho2 hna hnb, if_pos g])
        have hk : TM.W32 xk := hka
        clear h h1 h2 h3 hn ho ho2 hna hnb hkb hx hy HNm HPt HI hw g
        go_enter Try.func20, Try.ntmps20
        go_wp2_with (first
          | (go_at_call 31; refine (HBn.out _ (Below.refl _ _)).mono ?_; clear HBn; rintro e w1 ⟨rfl, hb1⟩; have HB := hid hb1; clear hb1)
          | (go_at_call 31; refine (HA.out _ HB.out).mono ?_; clear HA; rintro e w2 ⟨rfl, hb1⟩; have HB2 := stp HB hb1; clear hb1)
          | (go_at_call 33; refine (HTn.out _).mono ?_; clear HTn; rintro e w3 ⟨rfl, hb1⟩; have HB3 := stp HB2 hb1; clear hb1)
          | (go_at_call 32; refine (HOf.out _ HB3.out b hb _ hk).mono ?_; clear HOf; rintro e w4 hZ; replace hZ := PoolAt.below HB3.out hZ; rw [HE.out] at hZ; obtain ⟨F9, L9, p9, rfl, hZ⟩ := hZ; have HZ := hid hZ; clear hZ HB3 HE))
        go_ret2
        exact ⟨F9, L9, p9, rfl, HZ.out⟩
      | false =>
        rw [g] at HTn
        have HE := hid (show TM.op2 op (TM.tr L a) (TM.tr L b) = TM.mkT op (TM.tr L a) (TM.tr L b) from by rw [TM.mkT_n0 ho2 hna hnb, if_neg (by rw [g]; decide)])
        have hab : ((a : Int) == (b : Int)) = false := beq_eq_false_iff_ne.2 (fun e => by
          have e2 : a = b := by omega
          rw [e2, hnb] at hna; cases hna)
        clear h h1 h2 h3 hn ho ho2 hna hnb hkb hx hy HNm HOf HI g
        go_enter Try.func20, Try.ntmps20
        go_wp2_with (first
          | (go_at_call 31; refine (HBn.out _ (Below.refl _ _)).mono ?_; clear HBn; rintro e w1 ⟨rfl, hb1⟩; have HB := hid hb1; clear hb1)
          | (go_at_call 31; refine (HA.out _ HB.out).mono ?_; clear HA; rintro e w2 ⟨rfl, hb1⟩; have HB2 := stp HB hb1; clear hb1)
          | (go_at_call 33; refine (HTn.out _).mono ?_; clear HTn; rintro e w3 ⟨rfl, hb1⟩; have HB3 := stp HB2 hb1; clear hb1)
          | (go_at_call 17; refine (HPt.out _ HB3.out).mono ?_; clear HPt; rintro e w4 hZ; replace hZ := PoolAt.below HB3.out hZ; rw [HE.out] at hZ; obtain ⟨F9, L9, p9, rfl, hZ⟩ := hZ; have HZ := hid hZ; clear hZ HB3 HE))
        go_ret2
        exact ⟨F9, L9, p9, rfl, HZ.out⟩
    · rw [if_neg c2] at hna
      have d2 : (xo == 1) = false := beq_eq_false_iff_ne.2 c2
      rw [d2] at HA
      by_cases e : a = b
      · subst e
        have hab : ((a : Int) == (a : Int)) = true := beq_self_eq_true _
        have hE := TM.mkT_00 (op := op) ho2 hna hna
        rw [TM.eqT_iff.2 rfl] at hE
        by_cases g1 : op = 16 ∨ op = 160
        · rw [if_pos ⟨rfl, g1⟩] at hE
          have HE := hid hE.symm
          clear h h1 h2 h3 hn hna hnb hka hkb hx hy HTn HPt HOf HI hE ho2
          rcases g1 with rfl | rfl
          all_goals
            clear hw o1 ho
            go_enter Try.func20, Try.ntmps20
            go_wp2_with (first
              | (go_at_call 31; refine (HBn.out _ (Below.refl _ _)).mono ?_; clear HBn; rintro e w1 ⟨rfl, hb1⟩; have HB := hid hb1; clear hb1)
              | (go_at_call 31; refine (HA.out _ HB.out).mono ?_; clear HA; rintro e w2 ⟨rfl, hb1⟩; have HB2 := stp HB hb1; clear hb1)
              | (go_at_call 18; refine (HNm.out _ HB2.out).mono ?_; clear HNm; rintro e w4 hZ; replace hZ := PoolAt.below HB2.out hZ; rw [HE.out] at hZ; obtain ⟨F9, L9, p9, rfl, hZ⟩ := hZ; have HZ := hid hZ; clear hZ HB2 HE))
            go_ret2
            exact ⟨F9, L9, p9, rfl, HZ.out⟩
        · rw [if_neg (fun e => g1 e.2)] at hE
          by_cases g2 : op = 64 ∨ op = 80
          · rw [if_pos ⟨rfl, g2⟩] at hE
            have HE := hid hE.symm
            clear h h1 h2 h3 hn hna hnb hka hkb hx hy HTn HPt HOf HI hE g1 ho2
            rcases g2 with rfl | rfl
            all_goals
              clear hw o1 ho
              go_enter Try.func20, Try.ntmps20
              go_wp2_with (first
                | (go_at_call 31; refine (HBn.out _ (Below.refl _ _)).mono ?_; clear HBn; rintro e w1 ⟨rfl, hb1⟩; have HB := hid hb1; clear hb1)
                | (go_at_call 31; refine (HA.out _ HB.out).mono ?_; clear HA; rintro e w2 ⟨rfl, hb1⟩; have HB2 := stp HB hb1; clear hb1))
              go_ret2
              exact PoolAt.here (HLt.out _ HB2.out) HH.out.2.1 HH.out.2.2.1 HH.out.2.2.2.1 ha HE.out 2 HB2.out
          · rw [if_neg (fun e => g2 e.2)] at hE
            have HE := hid hE.symm
            have u1 : (op == 16) = false := beq_eq_false_iff_ne.2 (fun e => g1 (.inl e))
            have u2 : (op == 160) = false := beq_eq_false_iff_ne.2 (fun e => g1 (.inr e))
            have u3 : (op == 64) = false := beq_eq_false_iff_ne.2 (fun e => g2 (.inl e))
            have u4 : (op == 80) = false := beq_eq_false_iff_ne.2 (fun e => g2 (.inr e))
            clear h h1 h2 h3 hn hna hnb hka hkb hx hy HTn HNm HOf HI hE g1 g2 ho ho2
            go_enter Try.func20, Try.ntmps20
            go_wp2_with (first
              | (go_at_call 31; refine (HBn.out _ (Below.refl _ _)).mono ?_; clear HBn; rintro e w1 ⟨rfl, hb1⟩; have HB := hid hb1; clear hb1)
              | (go_at_call 31; refine (HA.out _ HB.out).mono ?_; clear HA; rintro e w2 ⟨rfl, hb1⟩; have HB2 := stp HB hb1; clear hb1)
              | (go_at_call 17; refine (HPt.out _ HB2.out).mono ?_; clear HPt; rintro e w4 hZ; replace hZ := PoolAt.below HB2.out hZ; rw [HE.out] at hZ; obtain ⟨F9, L9, p9, rfl, hZ⟩ := hZ; have HZ := hid hZ; clear hZ HB2 HE))
            go_ret2
            exact ⟨F9, L9, p9, rfl, HZ.out⟩
      · have hab : ((a : Int) == (b : Int)) = false := beq_eq_false_iff_ne.2 (fun e2 => e (by omega))
        have hE := TM.mkT_00 (op := op) ho2 hna hnb
        rw [TM.eqT_no.2 (fun e2 => e (HI.out e2)), if_neg (fun e => by cases e.1), if_neg (fun e => by cases e.1)] at hE
        have HE := hid hE.symm
        clear h h1 h2 h3 hn hna hnb hka hkb hx hy HTn HNm HOf HI hE ho ho2 e
        go_enter Try.func20, Try.ntmps20
        go_wp2_with (first
          | (go_at_call 31; refine (HBn.out _ (Below.refl _ _)).mono ?_; clear HBn; rintro e w1 ⟨rfl, hb1⟩; have HB := hid hb1; clear hb1)
          | (go_at_call 31; refine (HA.out _ HB.out).mono ?_; clear HA; rintro e w2 ⟨rfl, hb1⟩; have HB2 := stp HB hb1; clear hb1)
          | (go_at_call 17; refine (HPt.out _ HB2.out).mono ?_; clear HPt; rintro e w4 hZ; replace hZ := PoolAt.below HB2.out hZ; rw [HE.out] at hZ; obtain ⟨F9, L9, p9, rfl, hZ⟩ := hZ; have HZ := hid hZ; clear hZ HB2 HE))
        go_ret2
        exact ⟨F9, L9, p9, rfl, HZ.out⟩

set_option maxHeartbeats 1600000 in
theorem cby1P (W : World) (F : Nat → Prop) (v : Value) (L : List TM.N) (h : Pl W F v L) (h1 : TM.Row L) (h2 : TM.Once L) (h3 : ∀ x ∈ L, TM.okN x) (hn : L.length < 65530) (a : Nat) (ha : a < L.length) (t : TM.Tr) (bI : Int) :
    Calls Try.prog 20 #[.iface 29 v, .int .i64 128, .int .i64 a, .int .i64 bI] W fun e w' => PoolAt Pl W F v L (TM.mkT 128 (TM.tr L a) t) 2 e w' := by
  have HN := hid (cnegativeP W F v L h h1 h2 h3 hn a ha t)
  clear h h1 h2 h3 hn ha
  go_enter Try.func20, Try.ntmps20
  go_wp2_with (go_at_call 30; refine HN.out.mono ?_; rintro e w1 ⟨F9, L9, p9, rfl, hZ⟩; have HZ := hid hZ; clear hZ HN)
  go_ret2
  exact ⟨F9, L9, p9, rfl, HZ.out⟩
end Go.Proofs.Ytapbeffjnpgglab.TB
