/-
  The program's rules of layer 12 over the wide pool: byRules, as a walk over the Go text.
-/
import Derived.Test.YtapbeffjnpgglabSimByW
import Derived.Test.YtapbeffjnpgglabSC1
import Derived.Test.YtapbeffjnpgglabTerCodJ
import Derived.Test.YtapbeffjnpgglabSimLawP
namespace Go.Proofs.Ytapbeffjnpgglab.TB
open Go.ChangeShapes Go.WideShapes Go.ChangeAt Go.RowKit
open Go.Sort hiding Below
set_option linter.unusedVariables false
set_option maxRecDepth 100000

theorem bnd2W {Pl : PoolIs} {W : World} {F : Nat → Prop} {v : Value} {L : List TM.N} {t : TM.Tr} {e : Ending} {w' : World} (h : PoolAt Pl W F v L t 1 e w') : PoolAt Pl W F v L t 2 e w' := h.mono (by omega)

/-- rules that take two terms -/
theorem cnumNW (W : World) (F : Nat → Prop) (v : Value) (L : List TM.N) (h : Pw W F v L) (h1 : TM.Row L) (i : Nat) (hi : i < L.length) (o a b k : Int) (hx : TM.nat0 L i = (o, a, b, k)) :
    Calls Try.prog 31 #[.iface 62 v, .int .i64 i] W fun e w' => e = .returned (.tuple #[.int .u32 k, .bool (o == 1)]) ∧ Below W.heap.size W w' :=
  cnumAtW W F v L h i hi o a b k (by rw [← TM.nat0_eq hi]; exact hx)

set_option maxHeartbeats 6400000 in
theorem cby2W (W : World) (F : Nat → Prop) (v : Value) (L : List TM.N) (h : Pw W F v L) (h1 : TM.Row L) (h2 : TM.Once L) (h3 : ∀ x ∈ L, TM.okN x) (hn : L.length < 65530) (op : Int) (ho : TM.isOp op = true) (ho2 : op ≠ 128) (a b : Nat) (ha : a < L.length) (hb : b < L.length) :
    Calls Try.prog 20 #[.iface 62 v, .int .i64 op, .int .i64 a, .int .i64 b] W fun e w' => PoolAt Pw W F v L (TM.mkT op (TM.tr L a) (TM.tr L b)) 2 e w' := by
  have hm := metPW
  have hw := binOp_add_opW ho
  have o1 : (op == 128) = false := beq_eq_false_iff_ne.2 ho2
  have hna := TM.nm_row h1 ha
  have hnb := TM.nm_row h1 hb
  have hka := (TM.nat0_ok h3 a).2.2.2
  have hkb := (TM.nat0_ok h3 b).2.2.2
  obtain ⟨x, hx⟩ : ∃ x, TM.nat0 L a = x := ⟨_, rfl⟩
  obtain ⟨y, hy⟩ : ∃ y, TM.nat0 L b = y := ⟨_, rfl⟩
  rw [hx] at hna hka
  rw [hy] at hnb hkb
  obtain ⟨xo, xa, xb, xk⟩ := x
  obtain ⟨yo, ya, yb, yk⟩ := y
  simp only at hna hnb hka hkb
  have HLt := hid (show ∀ w1, Below W.heap.size W w1 → Pw w1 F v L from fun w1 hb => pw_below h hb)
  have HA := hid (show ∀ w1, Below W.heap.size W w1 → Calls Try.prog 31 #[.iface 62 v, .int .i64 (a : Int)] w1 fun e w' => e = .returned (.tuple #[.int .u32 xk, .bool (xo == 1)]) ∧ Below w1.heap.size w1 w' from fun w1 hb => cnumNW w1 F v L (HLt.out w1 hb) h1 a ha xo xa xb xk hx)
  have HBn := hid (show ∀ w1, Below W.heap.size W w1 → Calls Try.prog 31 #[.iface 62 v, .int .i64 (b : Int)] w1 fun e w' => e = .returned (.tuple #[.int .u32 yk, .bool (yo == 1)]) ∧ Below w1.heap.size w1 w' from fun w1 hb => cnumNW w1 F v L (HLt.out w1 hb) h1 b ‹b < L.length› yo ya yb yk hy)
  have HOf := hid (show ∀ w1, Below W.heap.size W w1 → ∀ (c : Nat), c < L.length → ∀ k, TM.W32 k → Calls Try.prog 32 #[.iface 62 v, .int .i64 op, .int .i64 (c : Int), .int .u32 k] w1 fun e w' => PoolAt Pw w1 F v L (TM.ofN op (TM.tr L c) k) 2 e w' from fun w1 hb c hc k hk => cofNW w1 F v L (HLt.out w1 hb) h1 h2 h3 hn op ho ho2 c hc k hk)
  have HTn := hid (fun w => cturns op ho w)
  have HNm := hid (show ∀ w1, Below W.heap.size W w1 → Calls Try.prog 18 #[.iface 62 v, .int .u32 0] w1 fun e w' => PoolAt Pw w1 F v L (.num 0) 2 e w' from fun w1 hb => (cnumberW w1 F v L (HLt.out w1 hb) h1 h2 h3 (by omega) 0 ⟨by omega, by omega⟩).mono (fun e w' h => bnd2W h))
  have HPt := hid (show ∀ w1, Below W.heap.size W w1 → Calls Try.prog 26 #[v, .agg #[.int .i64 (256 + op), .int .i64 (a : Int), .int .i64 (b : Int), .int .u32 0]] w1 fun e w' => PoolAt Pw w1 F v L (TM.op2 op (TM.tr L a) (TM.tr L b)) 2 e w' from fun w1 hb => by
    have q := qputW w1 F v L (HLt.out w1 hb) h1 h2 h3 (by omega) (256 + op) a b 0 (TM.ok_op2 ho (by omega) (by omega)) (TM.may_op2 ho ho2 ha ‹b < L.length›)
    rw [TM.tr_op2 ho ho2] at q
    exact q.mono (fun e w' h => bnd2W h))
  have HH := hid (And.intro h (And.intro h1 (And.intro h2 (And.intro h3 (And.intro ha hb)))))
  have HI := hid (fun (e : TM.tr L a = TM.tr L b) => TM.tr_inj h1 h3 h2 a b ha hb e)
  by_cases c1 : yo = 1
  · subst c1
    rw [if_pos rfl] at hnb
    have HE := hid (show TM.ofN op (TM.tr L a) yk = TM.mkT op (TM.tr L a) (TM.tr L b) from by
      cases e : TM.nmT (TM.tr L a) with
      | some i => rw [TM.ofN_num e, TM.mkT_nn ho2 e hnb]
      | none => rw [TM.ofN_none e, TM.mkT_0n ho2 e hnb])
    have hk : TM.W32 yk := hkb
    clear h h1 h2 h3 hn ho ho2 hna hnb hka hx hy HA HTn HNm HPt HI hw
    go_enter Try.func20, Try.ntmps20
    go_wp2_with (first
      | (go_at_call 31; refine (HBn.out _ (Below.refl _ _)).mono ?_; clear HBn; rintro e w1 ⟨rfl, hb1⟩; have HB := hid hb1; clear hb1)
      | (go_at_call 32; refine (HOf.out _ HB.out a ha _ hk).mono ?_; clear HOf; rintro e w2 hZ; replace hZ := PoolAt.below HB.out hZ; rw [HE.out] at hZ; obtain ⟨F9, L9, p9, rfl, hZ⟩ := hZ; have HZ := hid hZ; clear hZ HB HE))
    go_ret2
    exact ⟨F9, L9, p9, rfl, HZ.out⟩
  · rw [if_neg c1] at hnb
    have d1 : (yo == 1) = false := beq_eq_false_iff_ne.2 c1
    rw [d1] at HBn
    by_cases c2 : xo = 1
    · subst c2
      rw [if_pos rfl] at hna
      cases g : TM.trn op with
      | true =>
        rw [g] at HTn
        have HE := hid (show TM.ofN op (TM.tr L b) xk = TM.mkT op (TM.tr L a) (TM.tr L b) from by rw [TM.ofN_none hnb, TM.mkT_n0 ho2 hna hnb, if_pos g])
        have hk : TM.W32 xk := hka
        clear h h1 h2 h3 hn ho ho2 hna hnb hkb hx hy HNm HPt HI hw g
        go_enter Try.func20, Try.ntmps20
        go_wp2_with (first
          | (go_at_call 31; refine (HBn.out _ (Below.refl _ _)).mono ?_; clear HBn; rintro e w1 ⟨rfl, hb1⟩; have HB := hid hb1; clear hb1)
          | (go_at_call 31; refine (HA.out _ HB.out).mono ?_; clear HA; rintro e w2 ⟨rfl, hb1⟩; have HB2 := stp HB hb1; clear hb1)
          | (go_at_call 33; refine (HTn.out _).mono ?_; clear HTn; rintro e w3 ⟨rfl, hb1⟩; have HB3 := stp HB2 hb1; clear hb1)
          | (go_at_call 32; refine (HOf.out _ HB3.out b hb _ hk).mono ?_; clear HOf; rintro e w4 hZ; replace hZ := PoolAt.below HB3.out hZ; rw [HE.out] at hZ; obtain ⟨F9, L9, p9, rfl, hZ⟩ := hZ; have HZ := hid hZ; clear hZ HB3 HE))
        go_ret2
        exact ⟨F9, L9, p9, rfl, HZ.out⟩
      | false =>
        rw [g] at HTn
        have HE := hid (show TM.op2 op (TM.tr L a) (TM.tr L b) = TM.mkT op (TM.tr L a) (TM.tr L b) from by rw [TM.mkT_n0 ho2 hna hnb, if_neg (by rw [g]; decide)])
        have hab : ((a : Int) == (b : Int)) = false := beq_eq_false_iff_ne.2 (fun e => by
          have e2 : a = b := by omega
          rw [e2, hnb] at hna; cases hna)
        clear h h1 h2 h3 hn ho ho2 hna hnb hkb hx hy HNm HOf HI g
        go_enter Try.func20, Try.ntmps20
        go_wp2_with (first
          | (go_at_call 31; refine (HBn.out _ (Below.refl _ _)).mono ?_; clear HBn; rintro e w1 ⟨rfl, hb1⟩; have HB := hid hb1; clear hb1)
          | (go_at_call 31; refine (HA.out _ HB.out).mono ?_; clear HA; rintro e w2 ⟨rfl, hb1⟩; have HB2 := stp HB hb1; clear hb1)
          | (go_at_call 33; refine (HTn.out _).mono ?_; clear HTn; rintro e w3 ⟨rfl, hb1⟩; have HB3 := stp HB2 hb1; clear hb1)
          | (go_at_call 26; refine (HPt.out _ HB3.out).mono ?_; clear HPt; rintro e w4 hZ; replace hZ := PoolAt.below HB3.out hZ; rw [HE.out] at hZ; obtain ⟨F9, L9, p9, rfl, hZ⟩ := hZ; have HZ := hid hZ; clear hZ HB3 HE))
        go_ret2
        exact ⟨F9, L9, p9, rfl, HZ.out⟩
    · rw [if_neg c2] at hna
      have d2 : (xo == 1) = false := beq_eq_false_iff_ne.2 c2
      rw [d2] at HA
      by_cases e : a = b
      · subst e
        have hab : ((a : Int) == (a : Int)) = true := beq_self_eq_true _
        have hE := TM.mkT_00 (op := op) ho2 hna hna
        rw [TM.eqT_iff.2 rfl] at hE
        by_cases g1 : op = 16 ∨ op = 160
        · rw [if_pos ⟨rfl, g1⟩] at hE
          have HE := hid hE.symm
          clear h h1 h2 h3 hn hna hnb hka hkb hx hy HTn HPt HOf HI hE ho2
          rcases g1 with rfl | rfl
          all_goals
            clear hw o1 ho
            go_enter Try.func20, Try.ntmps20
            go_wp2_with (first
              | (go_at_call 31; refine (HBn.out _ (Below.refl _ _)).mono ?_; clear HBn; rintro e w1 ⟨rfl, hb1⟩; have HB := hid hb1; clear hb1)
              | (go_at_call 31; refine (HA.out _ HB.out).mono ?_; clear HA; rintro e w2 ⟨rfl, hb1⟩; have HB2 := stp HB hb1; clear hb1)
              | (go_at_call 18; refine (HNm.out _ HB2.out).mono ?_; clear HNm; rintro e w4 hZ; replace hZ := PoolAt.below HB2.out hZ; rw [HE.out] at hZ; obtain ⟨F9, L9, p9, rfl, hZ⟩ := hZ; have HZ := hid hZ; clear hZ HB2 HE))
            go_ret2
            exact ⟨F9, L9, p9, rfl, HZ.out⟩
        · rw [if_neg (fun e => g1 e.2)] at hE
          by_cases g2 : op = 64 ∨ op = 80
          · rw [if_pos ⟨rfl, g2⟩] at hE
            have HE := hid hE.symm
            clear h h1 h2 h3 hn hna hnb hka hkb hx hy HTn HPt HOf HI hE g1 ho2
            rcases g2 with rfl | rfl
            all_goals
              clear hw o1 ho
              go_enter Try.func20, Try.ntmps20
              go_wp2_with (first
                | (go_at_call 31; refine (HBn.out _ (Below.refl _ _)).mono ?_; clear HBn; rintro e w1 ⟨rfl, hb1⟩; have HB := hid hb1; clear hb1)
                | (go_at_call 31; refine (HA.out _ HB.out).mono ?_; clear HA; rintro e w2 ⟨rfl, hb1⟩; have HB2 := stp HB hb1; clear hb1))
              go_ret2
              exact PoolAt.here (HLt.out _ HB2.out) HH.out.2.1 HH.out.2.2.1 HH.out.2.2.2.1 ha HE.out 2 HB2.out
          · rw [if_neg (fun e => g2 e.2)] at hE
            have HE := hid hE.symm
            have u1 : (op == 16) = false := beq_eq_false_iff_ne.2 (fun e => g1 (.inl e))
            have u2 : (op == 160) = false := beq_eq_false_iff_ne.2 (fun e => g1 (.inr e))
            have u3 : (op == 64) = false := beq_eq_false_iff_ne.2 (fun e => g2 (.inl e))
            have u4 : (op == 80) = false := beq_eq_false_iff_ne.2 (fun e => g2 (.inr e))
            clear h h1 h2 h3 hn hna hnb hka hkb hx hy HTn HNm HOf HI hE g1 g2 ho ho2
            go_enter Try.func20, Try.ntmps20
            go_wp2_with (first
              | (go_at_call 31; refine (HBn.out _ (Below.refl _ _)).mono ?_; clear HBn; rintro e w1 ⟨rfl, hb1⟩; have HB := hid hb1; clear hb1)
              | (go_at_call 31; refine (HA.out _ HB.out).mono ?_; clear HA; rintro e w2 ⟨rfl, hb1⟩; have HB2 := stp HB hb1; clear hb1)
              | (go_at_call 26; refine (HPt.out _ HB2.out).mono ?_; clear HPt; rintro e w4 hZ; replace hZ := PoolAt.below HB2.out hZ; rw [HE.out] at hZ; obtain ⟨F9, L9, p9, rfl, hZ⟩ := hZ; have HZ := hid hZ; clear hZ HB2 HE))
            go_ret2
            exact ⟨F9, L9, p9, rfl, HZ.out⟩
      · have hab : ((a : Int) == (b : Int)) = false := beq_eq_false_iff_ne.2 (fun e2 => e (by omega))
        have hE := TM.mkT_00 (op := op) ho2 hna hnb
        rw [TM.eqT_no.2 (fun e2 => e (HI.out e2)), if_neg (fun e => by cases e.1), if_neg (fun e => by cases e.1)] at hE
        have HE := hid hE.symm
        clear h h1 h2 h3 hn hna hnb hka hkb hx hy HTn HNm HOf HI hE ho ho2 e
        go_enter Try.func20, Try.ntmps20
        go_wp2_with (first
          | (go_at_call 31; refine (HBn.out _ (Below.refl _ _)).mono ?_; clear HBn; rintro e w1 ⟨rfl, hb1⟩; have HB := hid hb1; clear hb1)
          | (go_at_call 31; refine (HA.out _ HB.out).mono ?_; clear HA; rintro e w2 ⟨rfl, hb1⟩; have HB2 := stp HB hb1; clear hb1)
          | (go_at_call 26; refine (HPt.out _ HB2.out).mono ?_; clear HPt; rintro e w4 hZ; replace hZ := PoolAt.below HB2.out hZ; rw [HE.out] at hZ; obtain ⟨F9, L9, p9, rfl, hZ⟩ := hZ; have HZ := hid hZ; clear hZ HB2 HE))
        go_ret2
        exact ⟨F9, L9, p9, rfl, HZ.out⟩

set_option maxHeartbeats 1600000 in
theorem cby1W (W : World) (F : Nat → Prop) (v : Value) (L : List TM.N) (h : Pw W F v L) (h1 : TM.Row L) (h2 : TM.Once L) (h3 : ∀ x ∈ L, TM.okN x) (hn : L.length < 65530) (a : Nat) (ha : a < L.length) (t : TM.Tr) (bI : Int) :
    Calls Try.prog 20 #[.iface 62 v, .int .i64 128, .int .i64 a, .int .i64 bI] W fun e w' => PoolAt Pw W F v L (TM.mkT 128 (TM.tr L a) t) 2 e w' := by
  have HN := hid (cnegativeW W F v L h h1 h2 h3 hn a ha t)
  clear h h1 h2 h3 hn ha
  go_enter Try.func20, Try.ntmps20
  go_wp2_with (go_at_call 30; refine HN.out.mono ?_; rintro e w1 ⟨F9, L9, p9, rfl, hZ⟩; have HZ := hid hZ; clear hZ HN)
  go_ret2
  exact ⟨F9, L9, p9, rfl, HZ.out⟩
end Go.Proofs.Ytapbeffjnpgglab.TB
namespace Go.Proofs.Ytapbeffjnpgglab.TM
set_option linter.unusedVariables false
theorem inT_take {l : List N} {m t : Nat} (ht : t < m) (hm : m ≤ l.length) : ∀ (d j : Nat), l.length ≤ j + d → (inT (l.take m) t j = true ↔ inT l t j = true) := by
  have hlen : (l.take m).length = m := by rw [List.length_take]; omega
  intro d
  induction d with
  | zero =>
    intro j hj
    rw [inT_iff, inT_iff]
    refine or_congr_right ⟨?_, ?_⟩
    · rintro ⟨q, h1, h2, _⟩; omega
    · rintro ⟨q, h1, h2, _⟩; omega
  | succ d ih =>
    intro j hj
    rw [inT_iff, inT_iff]
    refine or_congr_right ⟨?_, ?_⟩
    · rintro ⟨q, h1, h2, h3, h4⟩
      rw [hlen] at h1
      exact ⟨q, by omega, h2, (ih q (by omega)).1 h3, by rw [← nat0_take h1 hm]; exact h4⟩
    · rintro ⟨q, h1, h2, h3, h4⟩
      have hq : q < m := by have := inT_le (show t < l.length by omega) l.length q (by omega) h3; omega
      exact ⟨q, by rw [hlen]; exact hq, h2, (ih q (by omega)).2 h3, by rw [nat0_take hq hm]; exact h4⟩
theorem inR_one (l : List N) (t j : Nat) : inR l [(t : Int)] j = inT l t j := by unfold inR; simp
theorem inR_take1 {l : List N} {m t : Nat} (ht : t < m) (hm : m ≤ l.length) (j : Nat) : inR (l.take m) [(t : Int)] j = inR l [(t : Int)] j := by
  rw [inR_one, inR_one, Bool.eq_iff_iff]
  exact inT_take ht hm l.length j (by omega)
theorem only_le (l : List N) (R : List Int) : (onlyL l R).length ≤ l.length := by rw [only_len]; exact cnP_le _ _
theorem parts_moved {x : N} {i : Nat} (hx : may x i = true) {c : Nat → Nat} {j : Nat} (hj : j ∈ parts x) : c j ∈ parts (moved x c) := by
  rcases may_ok hx with ⟨h1, _⟩ | ⟨h1, _⟩ | ⟨h1, _⟩ | ⟨h1, h2, _⟩
  · rw [parts_leaf (by omega)] at hj; cases hj
  · rw [parts_leaf (by omega)] at hj; cases hj
  · rw [parts_neg h1] at hj
    have e : moved x c = (x.1, ((c x.2.1.toNat : Nat) : Int), x.2.2.1, x.2.2.2) := by unfold moved; rw [if_neg (by omega), if_pos h1]
    rw [e, parts_neg (x := (x.1, ((c x.2.1.toNat : Nat) : Int), x.2.2.1, x.2.2.2)) h1]
    rw [List.mem_singleton] at hj
    subst hj
    simp
  · rw [parts_two h1 h2] at hj
    have := isA_12 h1
    have e : moved x c = (x.1, ((c x.2.1.toNat : Nat) : Int), ((c x.2.2.1.toNat : Nat) : Int), x.2.2.2) := by unfold moved; rw [if_neg (by omega), if_neg h2]
    rw [e, parts_two (x := (x.1, ((c x.2.1.toNat : Nat) : Int), ((c x.2.2.1.toNat : Nat) : Int), x.2.2.2)) h1 h2]
    simp only [List.mem_cons, List.not_mem_nil, or_false] at hj
    rcases hj with hj | hj <;> subst hj <;> simp
/-- the row of one term's nodes is that term's alone -/
theorem only_alone {l : List N} (hl : Row l) (ok : ∀ x ∈ l, okN x) (hO : Once l) {t : Nat} (ht : t < l.length) : Alone (onlyL l [(t : Int)]) (cnP (inR l [(t : Int)]) t) (tr l t) := by
  have hroot : inR l [(t : Int)] t = true := by rw [inR_one]; exact inT_self l t
  have hall : ∀ i, i < l.length → inR l [(t : Int)] i = true → tr (onlyL l [(t : Int)]) (cnP (inR l [(t : Int)]) i) = tr l i := only_tr hl _
  refine ⟨only_row hl _, ?_, only_ok hl ok _, only_lt _ _ ht hroot, hall t ht hroot, ?_⟩
  · intro i j hi hj h
    obtain ⟨i', hi1, hi2, rfl⟩ := only_of l _ hi
    obtain ⟨j', hj1, hj2, rfl⟩ := only_of l _ hj
    have h1 := hall i' hi1 hi2
    have h2 := hall j' hj1 hj2
    have h3 : tr l i' = tr l j' := by
      rw [← h1, ← h2]
      rw [tr_row (only_row hl _) hi, tr_row (only_row hl _) hj, h]
    rw [tr_inj hl ok hO i' j' hi1 hj1 h3]
  · intro i hi
    obtain ⟨i', hi1, hi2, rfl⟩ := only_of l _ hi
    rw [inR_one] at hi2
    have key : ∀ (d i' : Nat), l.length ≤ i' + d → i' < l.length → inT l t i' = true → inT (onlyL l [(t : Int)]) (cnP (inR l [(t : Int)]) t) (cnP (inR l [(t : Int)]) i') = true := by
      intro d
      induction d with
      | zero => intro i' h1 h2; omega
      | succ d ih =>
        intro i' h1 h2 h3
        rcases inT_iff.1 h3 with h4 | ⟨q, g1, g2, g3, g4⟩
        · rw [h4]; exact inT_self _ _
        · have hq := ih q (by omega) g1 g3
          have hqR : inR l [(t : Int)] q = true := by rw [inR_one]; exact g3
          refine inT_part (only_row hl _) (only_lt _ _ g1 hqR) hq ?_
          rw [only_at l _ g1 hqR]
          exact parts_moved (hl.2 q g1) g4
    exact key l.length i' (by omega) hi1 hi2
end Go.Proofs.Ytapbeffjnpgglab.TM
namespace Go.Proofs.Ytapbeffjnpgglab.TB
open Go.ChangeShapes Go.WideShapes Go.ChangeAt Go.RowKit
open Go.Sort hiding Below
set_option linter.unusedVariables false
set_option maxRecDepth 100000
theorem wpListIn_append_node {F : Fence} {d : Nat} {w : World} {ops : Array Oper} {rest : List Oper} {o : Oper} {a : Act} {Q : Exit → Act → World → Prop} (hg : o.guard = none) (s x : Operand)
    (hop : o.op = .call { callee := .builtin .append, args := #[s, x], argTypes := #[22, 22] })
    (base n cap c b o' : Nat) (a0 : Option Addr) (A : List TM.N) (y : TM.N) (hs : a.eval s = .slice a0 n cap) (hown : OwnN w base a0 n cap A) (hx : a.eval x = .slice (some ⟨b, o', none⟩) 1 c) (hl : LyN w b o' [y]) (hnm : n ≤ 65536) (hbase : base ≤ w.heap.size)
    (h : ∀ g cap' w', OwnN w' base (some ⟨g, 0, none⟩) (n + 1) cap' (A ++ [y]) → w.grownBy w' (blk a0) → (blk a0 = some g ∨ g = w.heap.size) → wpListIn F d Try.prog ops Q rest (a.put o.dst (.slice (some ⟨g, 0, none⟩) (n + 1) cap')) w') : wpListIn F d Try.prog ops Q (o :: rest) a w := by
  refine wpListIn_plain hg fun K hK' => ?_
  obtain ⟨g, cap', w', hrun, r1, r2, r3⟩ := run_app1 (ty := o.type) (c := c) hown hl hnm hbase
  unfold Oper.wpIn
  refine ⟨?_, ?_⟩
  · simp [Oper.about, hop, resolve, Target.leads, Sem.run_pure]
  · rw [Oper.semAt_plain F _ _ (by rw [hop]; intro c hc'; cases hc')]
    simp [execOp, hop, resolve, invoke, builtin, hs, hx, hrun, Result.andThen]
    exact hK' _ _ (h g cap' w' r1 r2 r3)
end Go.Proofs.Ytapbeffjnpgglab.TB
namespace Go.Proofs.Ytapbeffjnpgglab.TB
open Go.ChangeShapes Go.WideShapes Go.ChangeAt Go.RowKit Go.Shelf
open Go.Sort hiding Below
set_option linter.unusedVariables false
set_option maxRecDepth 100000
attribute [local go_sem] Oper.semAt_some

set_option maxHeartbeats 12800000 in
theorem wonly_in (w : World) (b : Nat) (A : Option Addr) (cap n : Nat) (mo : Option Nat) (L : List TM.N) (hln : L.length = n) (hP0 : Wb w b A cap mo L) (hL : TM.Row L) (root : Nat) (hrt : root < n) :
    CallsIn Fence.wide 5 Try.prog 24 #[.pointer (some ⟨b, 0, none⟩), .int .i64 root] w fun e w' => ∃ a c, e = .returned (.tuple #[.slice a (TM.onlyL L [(root : Int)]).length c, .int .i64 ((TM.cnP (TM.inR L [(root : Int)]) root : Nat) : Int)]) ∧ LiesN w' a (TM.onlyL L [(root : Int)]) ∧ Below w.heap.size w w' := by
  have hn : n ≤ 65536 := by rw [← hln]; exact hL.1
  obtain ⟨i0, hi, hz0, hz1, hz2⟩ := info_parts infob
  obtain ⟨j0, hj, hy0, hy1, hy2⟩ := info_parts infoi
  have hcap := hP0.own.cap
  rw [hln] at hcap
  have HW := hid (show ∀ W, Below w.heap.size w W → Wb W b A cap mo L from fun W hb => hP0.below hb)
  have HA := hid (show LiesN w A L from hP0.own.lies)
  have c0 := hP0.cells.1
  rw [hln] at c0
  obtain ⟨L2, hL2⟩ : ∃ L2, L.take (root + 1) = L2 := ⟨_, rfl⟩
  obtain ⟨n2, hn2⟩ : ∃ n2, root + 1 = n2 := ⟨_, rfl⟩
  have hl2 : L2.length = n2 := by rw [← hL2, ← hn2, List.length_take]; omega
  have hR2 : TM.Row L2 := by rw [← hL2]; exact TM.row_take hL (by omega)
  have HA2 := hid (show LiesN w A L2 from by rw [← hL2]; exact hP0.own.lies.take _)
  have HTk := hid (show ∀ j, TM.inR L2 [(root : Int)] j = TM.inR L [(root : Int)] j from fun j => by rw [← hL2]; exact TM.inR_take1 (by omega) (by omega) j)
  have HH := hid (And.intro hl2 (And.intro hR2 (And.intro hln hL)))
  have hroot := TM.inR_root (l := L) (R := [(root : Int)]) (x := (root : Int)) (by simp)
  rw [Int.toNat_natCast] at hroot
  have HPp := hid (fun q j => TM.inR_part hL [(root : Int)] (q := q) (j := j))
  have HE := hid (show TM.onlyL L [(root : Int)] = TM.onK L (TM.inR L [(root : Int)]) n from by unfold TM.onlyL TM.onK; rw [hln])
  obtain ⟨P, hP⟩ : ∃ P, TM.inR L [(root : Int)] = P := ⟨_, rfl⟩
  rw [hP] at HTk HPp HE hroot ⊢
  clear hln hL hP0 hl2 hR2 hL2 hP
  refine callsIn_of_wp_marks Try.func24 rfl trivial ?_ rfl
  simp only [Try.ntmps24, List.size_toArray, List.length_cons, List.length_nil, Nat.reduceAdd, Nat.reduceSub, Array.replicate_succ, Array.replicate_zero, List.push_toArray, List.append_toArray, List.nil_append, List.cons_append]
  gi_wp2_with (gi_at_make; refine wpListIn_make_full _ rfl _ _ 78 rfl w.heap.size 4 i0 (.bool false) 1 Try.underlying78 hi hz0 hz1 .i64 .i64 n n n rfl rfl rfl rfl ?c1 ?c2 (Nat.le_refl _) ?_)
  case c1 => rw [hz2]; omega
  case c2 => unfold maxLen; omega
  intro wm hown hgrow
  have hBm : Below w.heap.size w wm := (Below.refl _ _).grown hgrow (Nat.le_refl _) (by intro k hk; cases hk)
  have hNm : Row wm w.heap.size n (fun _ => .bool false) := Row.of_own hown (fun j hj => made_get (.bool false) n j hj) (hown.lt _ rfl).2
  have hgm : w.heap.size < wm.heap.size := hNm.lt
  have bN := Boxed.new wm 78 (.slice (some ⟨w.heap.size, 0, none⟩) n n)
  have hN2 := hNm.below (al wm (.cells #[.slice (some ⟨w.heap.size, 0, none⟩) n n] 78))
  have hB2 := hBm.alloc hBm.size (.cells #[.slice (some ⟨w.heap.size, 0, none⟩) n n] 78)
  have cB := bN.cell
  have cX := hN2.cell root hrt
  have fX := hN2.froz root hrt
  have i1 : (root : Int) < (n : Int) := by omega
  have e1 : IntKind.i64.wrap ((root : Int) + 1) = (root : Int) + 1 := Go.IntWalk.i64_in _ (by omega)
  have i2 : ((root : Int) + 1) ≤ (cap : Int) := by omega
  have hsz : (wm.setCell ⟨w.heap.size, root, none⟩ (.bool true)).heap.size = wm.heap.size := by simp
  have bS1 := Boxed.new (wm.setCell ⟨w.heap.size, root, none⟩ (.bool true)) 78 (.slice (some ⟨w.heap.size, 0, none⟩) n n)
  rw [hsz] at bS1
  have hbs1 := hBm.setCell (p := ⟨w.heap.size, root, none⟩) (Nat.le_refl _) (.bool true)
  have HN := hid (show (Row ((wm.setCell ⟨w.heap.size, root, none⟩ (.bool true)).alloc (.cells #[.slice (some ⟨w.heap.size, 0, none⟩) n n] 78)) w.heap.size n (fun j => .bool (TM.baseR [(root : Int)] 1 j)) ∧ Boxed ((wm.setCell ⟨w.heap.size, root, none⟩ (.bool true)).alloc (.cells #[.slice (some ⟨w.heap.size, 0, none⟩) n n] 78)) wm.heap.size 78 (.slice (some ⟨w.heap.size, 0, none⟩) n n)) ∧ Below w.heap.size w ((wm.setCell ⟨w.heap.size, root, none⟩ (.bool true)).alloc (.cells #[.slice (some ⟨w.heap.size, 0, none⟩) n n] 78)) from
    ⟨⟨((hNm.set root hrt _).congr (fun j hj => by
      by_cases e : j = root
      · subst e; rw [if_pos rfl]; simp [TM.baseR]
      · rw [if_neg e]; simp [TM.baseR, e])).below (al _ _), bS1⟩, hbs1.alloc hbs1.size _⟩)
  have cB1 := HN.out.1.2.cell
  have c1 := (HW.out _ HN.out.2).cells.1
  have c2 := (HW.out _ (HN.out.2)).cells.1
  rw [HH.out.2.2.1] at c1
  clear hown hgrow hBm hNm hN2 hB2 bN c2 bS1 hsz hbs1
  gi_wp2_with (refine ⟨trivial, ?_⟩; gi_at_call 38; refine (back_in Fence.wide 4 trivial rfl _ _ _ _).mono ?_; rintro e w' ⟨rfl, rfl⟩)
  have hws : ((wm.setCell ⟨w.heap.size, root, none⟩ (.bool true)).alloc (.cells #[.slice (some ⟨w.heap.size, 0, none⟩) n n] 78)).heap.size = wm.heap.size + 1 := by simp
  obtain ⟨wr, hwr⟩ : ∃ wr, (wm.setCell ⟨w.heap.size, root, none⟩ (.bool true)).alloc (.cells #[.slice (some ⟨w.heap.size, 0, none⟩) n n] 78) = wr := ⟨_, rfl⟩
  rw [hwr] at HN hws c1 cB1 ⊢
  rw [← hws]
  have bS := Boxed.new wr 22 (.slice A n2 cap)
  have hQ : Row (wr.alloc (.cells #[.slice A n2 cap] 22)) w.heap.size n (fun j => .bool (TM.baseR [(root : Int)] 1 j)) ∧ Boxed (wr.alloc (.cells #[.slice A n2 cap] 22)) wm.heap.size 78 (.slice (some ⟨w.heap.size, 0, none⟩) n n) ∧ Below w.heap.size w (wr.alloc (.cells #[.slice A n2 cap] 22)) :=
    ⟨HN.out.1.1.below (al _ _), HN.out.1.2.alloc _, HN.out.2.alloc HN.out.2.size _⟩
  have hw0 : (wr.alloc (.cells #[.slice A n2 cap] 22)).heap.size = wr.heap.size + 1 := by simp
  clear HN cB cX fX c0 c1 cB1 hwr
  obtain ⟨W0, hW0⟩ : ∃ W0, wr.alloc (.cells #[.slice A n2 cap] 22) = W0 := ⟨_, rfl⟩
  rw [hW0] at bS hQ hw0 ⊢
  clear hW0
  refine wpIn_rangeFunc_ownH rfl (by omega) (gf := 48) (lb := #[.pointer (some ⟨wr.heap.size, 0, none⟩)]) rfl trivial (enters_of Try.func48 (by kernel_rfl) rfl)
    (back_stops Fence.wide 4 trivial rfl (by omega) wr.heap.size w.heap.size A n2 cap L2 HH.out.1 (by omega) (fun h0 a ha => by
      obtain ⟨b, o, e, h⟩ := HA2.out.ly (by rw [HH.out.1]; exact h0)
      rw [ha] at e; injection e with e; rw [e]; exact h.1) W0 (by omega) bS (HA2.out.below hQ.2.2))
    (fun h h' => KpB.trans h h') (fun W l o o' h1 h2 h3 h4 => ⟨belowK_b (w := W0) (by omega) W l o o' h1 h2 h3 h4, fun o2 ho2 => by
      rw [World.putObj_heap_other (by omega)]; exact ho2⟩) (Below.refl _ _) (fun _ => rfl)
    (fun pre W => (Row W w.heap.size n (fun j => .bool (TM.fdB L2 (TM.baseR [(root : Int)] 1) pre j)) ∧ Boxed W wm.heap.size 78 (.slice (some ⟨w.heap.size, 0, none⟩) n n)) ∧ Below w.heap.size w W)
    (fun _ _ _ => False)
    (OwnFrom.and (OwnFrom.and (Own.from (row_own w.heap.size n (fun pre j => Value.bool (TM.fdB L2 (TM.baseR [(root : Int)] 1) pre j))) _) (Own.from (boxed_own _ _ _) _)) (ownFrom_below (Nat.le_refl _) (by omega)))
    (fun _ _ _ _ _ hs _ _ => hs)
    ⟨⟨hQ.1, hQ.2.1⟩, hQ.2.2⟩
    (fun x a' W => ∃ Bx, w.heap.size < Bx ∧ NAt W Bx (TM.nat0 L2 x.1) ∧ a' = { tmps := #[Value.pointer (some { block := b, off := 0 }), Value.int IntKind.i64 ↑root, undef, undef, Value.slice none 0 0, Value.int IntKind.i64 0, Value.pointer (some { block := wm.heap.size, off := 0 }), .int .i64 (x.1 : Int), .pointer (some ⟨Bx, 0, none⟩), undef, undef, undef, undef, Value.pointer (some { block := b, off := 0 }), Value.pointer (some { block := b, off := 0 }), Value.pointer (some { block := b, off := 0 }), Value.slice A n cap, Value.int IntKind.i64 ↑n, Value.slice (some { block := w.heap.size, off := 0 }) n n, Value.slice (some { block := w.heap.size, off := 0 }) n n, Value.int IntKind.i64 ↑root, Value.pointer (some { block := w.heap.size, off := root }), Value.pointer (some { block := b, off := 0 }), Value.pointer (some { block := b, off := 0 }), Value.pointer (some { block := b, off := 0 }), Value.slice A n cap, Value.int IntKind.i64 ↑root, Value.int IntKind.i64 (↑root + 1), Value.slice A n2 cap, Value.func (Fn.func 48) #[] #[Value.pointer (some { block := wm.heap.size + 1, off := 0 })], .int .i64 (x.1 : Int), .agg #[.int .i64 (TM.nat0 L2 x.1).1, .int .i64 (TM.nat0 L2 x.1).2.1, .int .i64 (TM.nat0 L2 x.1).2.2.1, .int .u32 (TM.nat0 L2 x.1).2.2.2], undef, undef, undef, undef, undef, undef, undef, undef, undef, undef, undef, undef, undef, undef, undef, undef, undef, undef, undef, undef, undef, undef, undef, undef, undef, undef, undef, undef, undef, undef, undef, undef, undef, undef, undef, undef, undef, undef, undef, undef, undef, undef, undef, undef, undef, undef, undef, undef, undef, undef, undef, undef, undef, undef, undef, undef, undef, undef, undef, undef, undef], defers := [] })
    (fun x a' _ X Y row hs hg hr => by obtain ⟨Bx, h1, h2, h3⟩ := hs; exact ⟨Bx, h1, nat_own Bx (fun (_ : Unit) => TM.nat0 L2 x.1) () X Y row h2 hg (fun r e => (hr r e).2), h3⟩)
    ?assign ?body ?done ?stop
  case assign =>
    rintro l pre x W K ⟨⟨hRw, bI1⟩, hB1⟩ hK
    simp only [encB]
    obtain ⟨y, hnd⟩ : ∃ y, TM.nat0 L2 x.1 = y := ⟨_, rfl⟩
    rw [hnd] at hK ⊢
    obtain ⟨xo, xa, xb, xk⟩ := y
    rw [hws]
    gi_wp2
    exact hK _ _ ((KeepsOthers.alloc _ _).from _) (kpB_of_below (al _ _) hB1.size) ⟨⟨hRw.below (al _ _), bI1.alloc _⟩, hB1.alloc hB1.size _⟩ ⟨W.heap.size, hRw.lt, NAt.new W _ _ _ _, rfl⟩
  case body =>
    rintro l pre x a' W hl' ⟨r, hr⟩ ⟨⟨hRw, bI1⟩, hB1⟩ ⟨Bx, hBx, hN, rfl⟩ hlt
    obtain ⟨x, hx⟩ := x
    have hst := TM.fdB_snoc L2 (TM.baseR [(root : Int)] 1) pre ⟨x, hx⟩
    have hm := TM.may_ok (HH.out.2.1.2 x (by rw [HH.out.1]; exact hx))
    simp only at hN hst
    have hxn : x < n := by omega
    have HS := hid (show TrSt w W W W0.heap.size wr.heap.size Bx wm.heap.size w.heap.size n (TM.nat0 L2 x) (TM.fdB L2 (TM.baseR [(root : Int)] 1) pre) from ⟨KeepsFrom.refl _ _, KpB.refl _ _ _, hN, bI1, hRw, hB1⟩)
    have hBi : wm.heap.size ≠ w.heap.size := by omega
    have hBs : wr.heap.size ≠ w.heap.size := by omega
    have hBx2 : Bx ≠ w.heap.size := by omega
    have cI := bI1.cell
    have cX := hRw.cell x hxn
    have i1 : (x : Int) < (n : Int) := by omega
    obtain ⟨q0, q1, q2, q3, _⟩ := hN.cells
    have hnd : ∃ y, TM.nat0 L2 x = y := ⟨_, rfl⟩
    obtain ⟨⟨xo, xa, xb, xk⟩, hnd⟩ := hnd
    rw [hnd] at HS hm hst q0 q1 q2 q3 ⊢
    simp only at hm q0 q1 q2 q3
    clear hRw bI1 hB1 hN
    obtain ⟨cc, hcc⟩ : ∃ cc, TM.fdB L2 (TM.baseR [(root : Int)] 1) pre x = cc := ⟨_, rfl⟩
    rw [hcc] at cX hst
    replace hcc := hid hcc
    cases cc with
    | false =>
      have HE := hid (show ∀ j, TM.fdB L2 (TM.baseR [(root : Int)] 1) (pre ++ [⟨x, hx⟩]) j = TM.fdB L2 (TM.baseR [(root : Int)] 1) pre j from fun j => by rw [hst]; simp)
      clear hst hm
      gi_wp2
      refine ⟨trivial, ?_⟩
      gi_wp2
      refine ⟨trivial, ?_⟩
      gi_wp2
      exact ⟨HS.out.kf, HS.out.kp, ⟨HS.out.rw.congr (fun j hj => by rw [HE.out]), HS.out.bx⟩, HS.out.bl⟩
    | true =>
      have HPa := hid (fun xa z hz W' => CallsIn.inRound l (callsIn_wide.2 (chasA xo xa xb xk z hz W') : CallsIn Fence.wide (5 - 1 - 1 - 1) Try.prog 36 _ W' _))
      have HPb := hid (fun xa z hz W' => CallsIn.inRound l (callsIn_wide.2 (chasB xo xa xb xk z hz W') : CallsIn Fence.wide (5 - 1 - 1 - 1) Try.prog 37 _ W' _))
      by_cases h2 : xo ≤ 2
      · have hz : decide (256 ≤ xo) = false := decide_eq_false (by omega)
        have hz2 : (decide (256 ≤ xo) && (xo != 384)) = false := by rw [hz]; rfl
        have HE := hid (show ∀ j, TM.fdB L2 (TM.baseR [(root : Int)] 1) (pre ++ [⟨x, hx⟩]) j = TM.fdB L2 (TM.baseR [(root : Int)] 1) pre j from fun j => by
          rw [hst]; unfold TM.parts; rw [if_pos h2]; simp)
        have HP1 := hid (HPa.out xa false hz)
        have HP2 := hid (HPb.out xa false hz2)
        clear hst hm HPa HPb hz hz2 h2
        gi_wp2_with (first
          | (refine ⟨trivial, ?_⟩; gi_at_call 36; refine (HP1.out _).mono ?_; clear HP1; rintro e w1 ⟨rfl, hb⟩; have HS1 := hid (HS.out.below hb); clear hb q0 q1 q2 q3 cI cX; have cI := HS1.out.bx.cell; have cX := HS1.out.rw.cell x hxn; rw [hcc.out] at cX; obtain ⟨q0, q1, q2, q3, _⟩ := HS1.out.nd.cells)
          | (refine ⟨trivial, ?_⟩; gi_at_call 37; refine (HP2.out _).mono ?_; clear HP2; rintro e w2 ⟨rfl, hb⟩; have HS2 := hid (HS1.out.below hb); clear hb q0 q1 q2 q3 cI cX))
        exact ⟨HS2.out.kf, HS2.out.kp, ⟨HS2.out.rw.congr (fun j hj => by rw [HE.out]), HS2.out.bx⟩, HS2.out.bl⟩
      · have ha : 0 ≤ xa ∧ xa < x := by rcases hm with h | h | h | h <;> omega
        obtain ⟨a1, rfl⟩ : ∃ a1 : Nat, xa = a1 := ⟨xa.toNat, by omega⟩
        have ha1 : a1 < n := by omega
        have i3 : (a1 : Int) < (n : Int) := by omega
        have hax : x ≠ a1 := by omega
        have hz : decide (256 ≤ xo) = true := decide_eq_true (by rcases hm with h | h | h | h <;> first | omega | (have := TM.isA_12 h.1; omega))
        by_cases h3 : xo = 384
        · subst h3
          have HE := hid (show ∀ j, TM.fdB L2 (TM.baseR [(root : Int)] 1) (pre ++ [⟨x, hx⟩]) j = (TM.fdB L2 (TM.baseR [(root : Int)] 1) pre j || decide (j = a1)) from fun j => by
            rw [hst]; unfold TM.parts; rw [if_neg h2, if_pos rfl]; simp)
          have HP1 := hid (HPa.out a1 true rfl)
          have HP2 := hid (HPb.out a1 false rfl)
          clear hst hm HPa HPb h2 hz
          gi_wp2_with (first
            | (refine ⟨trivial, ?_⟩; gi_at_call 36; refine (HP1.out _).mono ?_; clear HP1; rintro e w1 ⟨rfl, hb⟩; have HS1 := hid (HS.out.below hb); have HS2 := hid (HS1.out.set (U := fun j => TM.fdB L2 (TM.baseR [(root : Int)] 1) pre j || decide (j = a1)) a1 ha1 hBx2 hBi hBs (Nat.le_refl _) (fun j => rfl)); clear hb q0 q1 q2 q3 cI cX; have cI := HS1.out.bx.cell; have cA := HS1.out.rw.cell a1 ha1; have fA := HS1.out.rw.froz a1 ha1; obtain ⟨q0, q1, q2, q3, _⟩ := HS1.out.nd.cells; have cI2 := HS2.out.bx.cell; obtain ⟨r0, r1, r2, r3, _⟩ := HS2.out.nd.cells; have cX2 := HS2.out.rw.cell x hxn; simp only [hcc.out, Bool.true_or] at cX2)
            | (refine ⟨trivial, ?_⟩; gi_at_call 37; refine (HP2.out _).mono ?_; clear HP2; rintro e w2 ⟨rfl, hb⟩; have HS3 := hid (HS2.out.below hb); clear hb))
          exact ⟨HS3.out.kf, HS3.out.kp, ⟨HS3.out.rw.congr (fun j hj => by rw [HE.out]), HS3.out.bx⟩, HS3.out.bl⟩
        · have hb0 : 0 ≤ xb ∧ xb < x := by rcases hm with h | h | h | h <;> omega
          obtain ⟨b1, rfl⟩ : ∃ b1 : Nat, xb = b1 := ⟨xb.toNat, by omega⟩
          have hb1 : b1 < n := by omega
          have i4 : (b1 : Int) < (n : Int) := by omega
          have hz2 : (decide (256 ≤ xo) && (xo != 384)) = true := by rw [hz, bne_iff_ne.2 h3]; rfl
          have HE := hid (show ∀ j, TM.fdB L2 (TM.baseR [(root : Int)] 1) (pre ++ [⟨x, hx⟩]) j = ((TM.fdB L2 (TM.baseR [(root : Int)] 1) pre j || decide (j = a1)) || decide (j = b1)) from fun j => by
            rw [hst]; unfold TM.parts; rw [if_neg h2, if_neg h3]; simp [Bool.or_assoc])
          have HP1 := hid (HPa.out a1 true hz)
          have HP2 := hid (HPb.out a1 true hz2)
          clear hst hm HPa HPb h2 h3 hz hz2
          gi_wp2_with (first
            | (refine ⟨trivial, ?_⟩; gi_at_call 36; refine (HP1.out _).mono ?_; clear HP1; rintro e w1 ⟨rfl, hb⟩; have HS1 := hid (HS.out.below hb); have HS2 := hid (HS1.out.set (U := fun j => TM.fdB L2 (TM.baseR [(root : Int)] 1) pre j || decide (j = a1)) a1 ha1 hBx2 hBi hBs (Nat.le_refl _) (fun j => rfl)); clear hb q0 q1 q2 q3 cI cX; have cI := HS1.out.bx.cell; have cA := HS1.out.rw.cell a1 ha1; have fA := HS1.out.rw.froz a1 ha1; obtain ⟨q0, q1, q2, q3, _⟩ := HS1.out.nd.cells; have cI2 := HS2.out.bx.cell; obtain ⟨r0, r1, r2, r3, _⟩ := HS2.out.nd.cells; have cX2 := HS2.out.rw.cell x hxn; simp only [hcc.out, Bool.true_or] at cX2)
            | (refine ⟨trivial, ?_⟩; gi_at_call 37; refine (HP2.out _).mono ?_; clear HP2; rintro e w2 ⟨rfl, hb⟩; have HS3 := hid (HS2.out.below hb); have HS4 := hid (HS3.out.set (U := fun j => (TM.fdB L2 (TM.baseR [(root : Int)] 1) pre j || decide (j = a1)) || decide (j = b1)) b1 hb1 hBx2 hBi hBs (Nat.le_refl _) (fun j => rfl)); clear hb q0 q1 q2 q3 cI cA fA cI2 cX2 r0 r1 r2 r3; have cI := HS3.out.bx.cell; have cA := HS3.out.rw.cell b1 hb1; have fA := HS3.out.rw.froz b1 hb1; obtain ⟨q0, q1, q2, q3, _⟩ := HS3.out.nd.cells))
          exact ⟨HS4.out.kf, HS4.out.kp, ⟨HS4.out.rw.congr (fun j hj => by rw [HE.out]), HS4.out.bx⟩, HS4.out.bl⟩
  case done =>
    rintro D ys W hD rfl ⟨⟨hRw, bI1⟩, hB1⟩ hK
    have cI := bI1.cell
    have HF := hid (show ∀ j, TM.fdB L2 (TM.baseR [(root : Int)] 1) (dn n2 n2) j = P j from fun j => by
      have := TM.fdB_all HH.out.2.1 [(root : Int)] j
      rw [HH.out.1] at this
      rw [← HTk.out j, ← this]; rfl)
    have hRw2 := hRw.congr (U := fun j => .bool (P j)) (fun j hj => by rw [HF.out])
    have hP9 := HW.out _ hB1
    have c1 := hP9.cells.1
    rw [HH.out.2.2.1] at c1
    have hDlt : D < W.heap.size := (Array.getElem?_eq_some_iff.1 hK).1
    have hgW : w.heap.size < W.heap.size := hRw2.lt
    have hne : W.heap.size ≠ w.heap.size := by omega
    have HQ := hid (And.intro hP9 (And.intro (HA.out.below hB1) (And.intro bI1 (And.intro hK hB1))))
    have HRw := hid hRw2
    clear hRw HF hRw2 bI1 hB1 hP9 hK hQ bS
    gi_wp2_with (gi_at_make; refine wpListIn_make_full _ rfl _ _ 26 rfl W.heap.size 3 j0 (.int .i64 0) 1 Try.underlying26 hj hy0 hy1 .i64 .i64 n n n rfl rfl rfl rfl ?c3 ?c4 (Nat.le_refl _) ?_)
    case c3 => rw [hy2]; omega
    case c4 => unfold maxLen; omega
    intro wo hown hgrow
    have hbo : Below W.heap.size W wo := (Below.refl _ _).grown hgrow (Nat.le_refl _) (by intro k hk; cases hk)
    have hNo : Row wo W.heap.size n (fun _ => .int .i64 0) := Row.of_own hown (fun j hj => made_get (.int .i64 0) n j hj) (hown.lt _ rfl).2
    have HS := hid (show OnSt W wo wo.heap.size W.heap.size w.heap.size n none 0 L P 0 (fun _ => 0) [] 0 from ⟨OwnN.nil _ _, hNo, HRw.out.below hbo, hNo.lt, Nat.lt_trans hgW hNo.lt, Nat.le_refl _, Nat.le_refl _, hbo⟩)
    have cI2 := (show Boxed wo wm.heap.size 78 (.slice (some ⟨w.heap.size, 0, none⟩) n n) from (hbo.block _ HQ.out.2.2.1.lt).trans HQ.out.2.2.1).cell
    clear hown hgrow hNo hbo cI c1 HRw
    gi_wp2
    gi_loopw [9, 64] (fun v i wr2 => ∃ (k : Nat) (a : Option Addr) (c' : Nat), k ≤ n ∧ i = .int .i64 k ∧ v = .slice a (TM.cnP P k) c' ∧ Hid (OnSt W wr2 wo.heap.size W.heap.size w.heap.size n a c' L P k (fun j => if j < k ∧ P j = true then TM.cnP P j else 0) (TM.onK L P k) (TM.cnP P k))) (fun _ i _ => n - (intOf i).toNat)
    case atStart => exact ⟨0, none, 0, Nat.zero_le _, rfl, rfl, HS.out.own, HS.out.r1.congr (fun j hj => by rw [if_neg (by omega)]), HS.out.r2, HS.out.b1, HS.out.b2, HS.out.b0, HS.out.bb, HS.out.bl⟩
    case round =>
      clear HS
      obtain ⟨k, a, c', hk, rfl, rfl, HR⟩ := hrel
      by_cases hlt : k < n
      · have i2 : (k : Int) < (n : Int) := by omega
        have cP := HR.out.r2.cell k hlt
        obtain ⟨pk, hpk⟩ : ∃ pk, P k = pk := ⟨_, rfl⟩
        rw [hpk] at cP
        have hcs := TM.cnP_succ P k
        cases pk with
        | false =>
          have HZ := hid (show OnSt W wr wo.heap.size W.heap.size w.heap.size n a c' L P (k + 1) (fun j => if j < k + 1 ∧ P j = true then TM.cnP P j else 0) (TM.onK L P (k + 1)) (TM.cnP P (k + 1)) from by
            rw [TM.onK_no hpk, hcs, hpk]
            simp only [Bool.false_eq_true, if_false, Nat.add_zero]
            exact ⟨HR.out.own, HR.out.r1.congr (fun j hj => by
              by_cases e : j = k
              · subst e; rw [hpk]; simp
              · by_cases e2 : j < k
                · simp [e2, show j < k + 1 by omega]
                · simp [e2, show ¬ j < k + 1 by omega]), HR.out.r2, HR.out.b1, HR.out.b2, HR.out.b0, HR.out.bb, HR.out.bl⟩)
          rw [hpk] at hcs
          simp only [Bool.false_eq_true, if_false, Nat.add_zero] at hcs
          have HC := hid hcs
          clear hpk hcs HR
          gi_wp2
          go_roundw
          case rel => exact ⟨k + 1, a, c', by omega, by go_num, by rw [HC.out], HZ.out⟩
          case measure => simp [intOf]; omega
        | true =>
          have hkl : k < L.length := by rw [HH.out.2.2.1]; exact hlt
          have hmay := HH.out.2.2.2.2 k hkl
          rw [hpk, if_pos rfl] at hcs
          have hcn := TM.cnP_le P k
          have HM := hid (HR.out.mark hne k hlt (TM.cnP P k))
          obtain ⟨gb, go, rfl, hly⟩ := (HQ.out.2.1.below HM.out.bl).ly (by omega)
          obtain ⟨q0, q1, q2, q3⟩ := hly.2 k hkl
          have cN := (HQ.out.1.below HM.out.bl).cells.1
          rw [HH.out.2.2.1] at cN
          have c1 := HR.out.r1.cell k hlt
          have f1 := HR.out.r1.froz k hlt
          have h0x := TM.nat0_eq hkl
          obtain ⟨x, hx⟩ : ∃ x, L[k] = x := ⟨_, rfl⟩
          rw [hx] at q0 q1 q2 q3 h0x
          clear hx hly
          rw [h0x] at hmay
          have HMv := hid (show TM.moved x (fun j => if j = k then TM.cnP P k else if j < k ∧ P j = true then TM.cnP P j else 0) = TM.moved x (TM.cnP P) from TM.moved_congr (fun j hj => by
            have hjk := TM.parts_lt hmay hj
            rw [if_neg (by omega), if_pos ⟨hjk, HPp.out k j hkl hpk (by rw [h0x]; exact hj)⟩]))
          have HCl := hid (cmoved x k hmay W.heap.size n n (by omega) hn _ _ HM.out.r1)
          rw [HMv.out] at HCl
          replace HCl := hid (callsIn_wide.2 HCl.out : CallsIn Fence.wide (5 - 1) Try.prog 23 _ _ _)
          have HO := hid (TM.onK_yes (L := L) hpk)
          rw [h0x] at HO
          obtain ⟨y, hy⟩ : ∃ y, TM.moved x (TM.cnP P) = y := ⟨_, rfl⟩
          rw [hy] at HCl HO
          have HV := hid (show ∀ j, (if j = k then TM.cnP P k else if j < k ∧ P j = true then TM.cnP P j else 0) = (if j < k + 1 ∧ P j = true then TM.cnP P j else 0) from fun j => by
            by_cases e : j = k
            · subst e; simp [hpk]
            · rw [if_neg e]
              by_cases e2 : j < k
              · simp [e2, show j < k + 1 by omega]
              · simp [e2, show ¬ j < k + 1 by omega])
          have HC := hid hcs
          clear hpk hcs HR hmay HMv h0x hy
          gi_wp2_with (first
            | (refine ⟨trivial, ?_⟩; gi_at_call 23; refine HCl.out.mono ?_; rintro e w4 ⟨rfl, hb⟩; have HM2 := hid (HM.out.below hb); clear hb HM HCl q0 q1 q2 q3 c1 f1 cP cN)
            | (gi_at_builtin; refine wpListIn_append_node (by rfl) _ _ rfl wo.heap.size (TM.cnP P k) c' 1 w4.heap.size 0 a (TM.onK L P k) y rfl (HM2.out.own.below (al _ _)) rfl (ly_one w4 y) (by omega) (Nat.le_trans HM2.out.bb (al _ _).size) ?_))
          intro g cap' w5 hown hgr hgo
          have HZ := hid ((HM2.out.below (al w4 _)).app hown hgr)
          clear hown hgr hgo HM2
          gi_wp2
          go_roundw
          case rel => exact ⟨k + 1, some ⟨g, 0, none⟩, cap', by omega, by go_num, by rw [HC.out], by rw [HO.out, HC.out]; exact HZ.out.own, HZ.out.r1.congr (fun j hj => by rw [HV.out j]), HZ.out.r2, HZ.out.b1, HZ.out.b2, HZ.out.b0, HZ.out.bb, HZ.out.bl⟩
          case measure => simp [intOf]; omega
      · obtain rfl : k = n := by omega
        have cR := HR.out.r1.cell root hrt
        simp only [hrt, hroot, true_and, if_true] at cR
        have HF := hid (show LiesN wr a (TM.onlyL L [(root : Int)]) ∧ (TM.onlyL L [(root : Int)]).length = TM.cnP P k ∧ wr.heap[D]? = some (.deferred (some [])) ∧ Below w.heap.size w wr from ⟨by rw [HE.out]; exact HR.out.own.lies, by rw [HE.out, TM.onK_len], (HR.out.bl.block D hDlt).trans HQ.out.2.2.2.1, HQ.out.2.2.2.2.trans (HR.out.bl.mono HQ.out.2.2.2.2.size)⟩)
        rw [← HF.out.2.1]
        have HO := hid HR.out.own
        have HOb := hid HR.out.bb
        have hwo : W.heap.size ≤ wo.heap.size := by have := HR.out.b1; omega
        clear HR
        gi_wp2
        gi_region
        gi_wp2
        have hDw : w.heap.size ≤ D := by omega
        refine ⟨by simp, .inl ⟨_, _, rfl, run_takeDeferred HF.out.2.2.1, ?_⟩⟩
        refine ⟨_, results_tmp2 rfl _ _ _, a, c', rfl, ?_, ?_⟩
        · have hO2 : OwnN (wr.drew.putObj D (.deferred none)) wo.heap.size a (TM.cnP P k) c' (TM.onK L P k) := HO.out.keep (fun z hz => by
            obtain ⟨Z, e1, e2⟩ := blk_at hz
            have := (HO.out.at Z e1).1
            rw [World.putObj_heap_other (by omega)]; rfl)
          rw [HE.out]
          exact hO2.lies
        · exact (bdrewB HF.out.2.2.2).trans (belowK_b (w := w) (Nat.le_refl _) wr.drew D _ _ hDw HF.out.2.2.1 rfl rfl)
  case stop =>
    rintro D c pre W _ _ h _
    exact h.elim
/-- the row of one term's nodes -/
theorem wonly (w : World) (b : Nat) (A : Option Addr) (cap n : Nat) (mo : Option Nat) (L : List TM.N) (hln : L.length = n) (hP0 : Wb w b A cap mo L) (hL : TM.Row L) (root : Nat) (hrt : root < n) :
    Calls Try.prog 24 #[.pointer (some ⟨b, 0, none⟩), .int .i64 root] w fun e w' => ∃ a c, e = .returned (.tuple #[.slice a (TM.onlyL L [(root : Int)]).length c, .int .i64 ((TM.cnP (TM.inR L [(root : Int)]) root : Nat) : Int)]) ∧ LiesN w' a (TM.onlyL L [(root : Int)]) ∧ Below w.heap.size w w' :=
  callsIn_wide.1 (wonly_in w b A cap n mo L hln hP0 hL root hrt)
end Go.Proofs.Ytapbeffjnpgglab.TB
namespace Go.Proofs.Ytapbeffjnpgglab.TM
set_option linter.unusedVariables false
/-- a node made anew, whose parts have been -/
def anewN (y : N) (f : Nat → Tr) : Tr := if y.1 ≤ 2 then trN y f else mkT (y.1 - 256) (f y.2.1.toNat) (f y.2.2.1.toNat)
theorem anewN_moved {x : N} {i : Nat} (hx : may x i = true) {V : Nat → Nat} {f T : Nat → Tr} (h : ∀ j ∈ parts x, f (V j) = anewT (T j)) : anewN (moved x V) f = anewT (trN x T) := by
  rcases may_ok hx with ⟨h1, _⟩ | ⟨h1, _⟩ | ⟨h1, _⟩ | ⟨h1, h2, _⟩
  · have e : moved x V = x := by unfold moved; rw [if_pos (by omega)]
    rw [e, trN_num h1, anewN, if_pos (by omega), trN_num h1, anewT]
  · have e : moved x V = x := by unfold moved; rw [if_pos (by omega)]
    rw [e, trN_word h1, anewN, if_pos (by omega), trN_word h1, anewT]
  · have e : moved x V = (x.1, ((V x.2.1.toNat : Nat) : Int), x.2.2.1, x.2.2.2) := by unfold moved; rw [if_neg (by omega), if_pos h1]
    have g := h x.2.1.toNat (by rw [parts_neg h1]; simp)
    rw [e, trN_neg h1, anewT, anewN, if_neg (by show ¬ x.1 ≤ 2; omega)]
    show mkT (x.1 - 256) (f ((V x.2.1.toNat : Nat) : Int).toNat) (f x.2.2.1.toNat) = _
    rw [Int.toNat_natCast, g, h1, show (384 - 256 : Int) = 128 from rfl, mkT_neg, mkT_neg]
  · have := isA_12 h1
    have e : moved x V = (x.1, ((V x.2.1.toNat : Nat) : Int), ((V x.2.2.1.toNat : Nat) : Int), x.2.2.2) := by unfold moved; rw [if_neg (by omega), if_neg h2]
    have g1 := h x.2.1.toNat (by rw [parts_two h1 h2]; simp)
    have g2 := h x.2.2.1.toNat (by rw [parts_two h1 h2]; simp)
    rw [e, trN_two h1 h2, anewT, anewN, if_neg (by show ¬ x.1 ≤ 2; omega)]
    show mkT (x.1 - 256) (f ((V x.2.1.toNat : Nat) : Int).toNat) (f ((V x.2.2.1.toNat : Nat) : Int).toNat) = _
    rw [Int.toNat_natCast, Int.toNat_natCast, g1, g2]
end Go.Proofs.Ytapbeffjnpgglab.TM
namespace Go.Proofs.Ytapbeffjnpgglab.TB
open Go.ChangeShapes Go.WideShapes Go.ChangeAt Go.RowKit
open Go.Sort hiding Below
set_option linter.unusedVariables false
set_option maxRecDepth 100000
/-- a place of the wide pool, as a call answers it -/
def WAt (W : World) (F : Nat → Prop) (v : Value) (L : List TM.N) (t : TM.Tr) (B : Nat) (e : Ending) (w' : World) : Prop :=
  ∃ F' L' p, e = .returned (.int .i64 ((p : Nat) : Int)) ∧ TM.Made L L' t p ∧ L'.length ≤ L.length + B ∧ Pw w' F' v L' ∧ Fr W w' F ∧ (∀ b, F' b → F b ∨ W.heap.size ≤ b)

set_option maxHeartbeats 3200000 in
theorem canew (W : World) (F : Nat → Prop) (pb : Nat) (L : List TM.N) (h : Pw W F (.pointer (some ⟨pb, 0, none⟩)) L) (h1 : TM.Row L) (h2 : TM.Once L) (h3 : ∀ x ∈ L, TM.okN x) (hn : L.length < 65530) (o a b k : Int) (oy : TM.okN (o, a, b, k)) (hm : TM.may (o, a, b, k) L.length = true) :
    Calls Try.prog 22 #[.pointer (some ⟨pb, 0, none⟩), .agg #[.int .i64 o, .int .i64 a, .int .i64 b, .int .u32 k]] W fun e w' => WAt W F (.pointer (some ⟨pb, 0, none⟩)) L (TM.anewN (o, a, b, k) (TM.tr L)) 2 e w' := by
  have hmo := TM.may_ok hm
  have HB := hid (al W (.cells #[.int .i64 o, .int .i64 a, .int .i64 b, .int .u32 k] 40))
  have HN := hid (NAt.new W o a b k)
  obtain ⟨q0, q1, q2, q3, qf⟩ := HN.out.cells
  simp only at hmo
  by_cases c : o ≤ 2
  · have HA := hid (fun W => chasA o a b k false (decide_eq_false (by omega)) W)
    have HQ := hid (show ∀ w1, Below W.heap.size W w1 → Calls Try.prog 26 #[.pointer (some ⟨pb, 0, none⟩), .agg #[.int .i64 o, .int .i64 a, .int .i64 b, .int .u32 k]] w1 fun e w' => PoolAt Pw w1 F (.pointer (some ⟨pb, 0, none⟩)) L (TM.trN (o, a, b, k) (TM.tr L)) 1 e w' from fun w1 hb => qputW w1 F _ L (pw_below h hb) h1 h2 h3 (by omega) o a b k oy hm)
    have HE := hid (show TM.anewN (o, a, b, k) (TM.tr L) = TM.trN (o, a, b, k) (TM.tr L) from by unfold TM.anewN; rw [if_pos c])
    rw [HE.out]
    obtain ⟨T, hT⟩ : ∃ T, TM.trN (o, a, b, k) (TM.tr L) = T := ⟨_, rfl⟩
    rw [hT] at HQ ⊢
    clear HE h h1 h2 h3 hn oy hm hmo c hT
    go_enter Try.func22, Try.ntmps22
    go_wp2_with (first
      | (go_at_call 36; refine (HA.out _).mono ?_; clear HA; rintro e w1 ⟨rfl, hb⟩; have HB1 := stp HB hb; have HN1 := hid (HN.out.below hb); clear hb q0 q1 q2 q3 qf HN HB; obtain ⟨q0, q1, q2, q3, qf⟩ := HN1.out.cells)
      | (go_at_call 26; refine (HQ.out _ HB1.out).mono ?_; clear HQ; rintro e w4 hZ; replace hZ := PoolAt.below HB1.out hZ; obtain ⟨F9, L9, p9, rfl, hZ⟩ := hZ; have HZ := hid hZ; clear hZ HB1 HN1 q0 q1 q2 q3 qf))
    go_ret
    exact ⟨F9, L9, p9, rfl, HZ.out.1, by have := HZ.out.2.1; omega, HZ.out.2.2⟩
  · have HA := hid (fun W => chasA o a b k true (decide_eq_true (by rcases hmo with h | h | h | h <;> first | omega | (have := TM.isA_12 h.1; omega))) W)
    have ha : 0 ≤ a ∧ a.toNat < L.length := by rcases hmo with h | h | h | h <;> omega
    obtain ⟨a1, rfl⟩ : ∃ a1 : Nat, a = a1 := ⟨a.toNat, by omega⟩
    rw [Int.toNat_natCast] at ha
    have hA2 : TM.isA o = true := by
      rcases hmo with h | h | h | h
      · omega
      · omega
      · rw [TM.isA_iff]; omega
      · exact h.1
    have hoo := TM.isA_12 hA2
    have hw : IntKind.i64.wrap (o - 256) = o - 256 := Go.IntWalk.i64_in _ (by omega)
    have HE := hid (show TM.anewN (o, (a1 : Int), b, k) (TM.tr L) = TM.mkT (o - 256) (TM.tr L a1) (TM.tr L b.toNat) from by unfold TM.anewN; rw [if_neg c]; rfl)
    rw [HE.out]
    obtain ⟨T, hT⟩ : ∃ T, TM.mkT (o - 256) (TM.tr L a1) (TM.tr L b.toNat) = T := ⟨_, rfl⟩
    have HR := hid (show ∀ w1, Below W.heap.size W w1 → Calls Try.prog 20 #[.iface 62 (.pointer (some ⟨pb, 0, none⟩)), .int .i64 (o - 256), .int .i64 (a1 : Int), .int .i64 b] w1 fun e w' => PoolAt Pw w1 F (.pointer (some ⟨pb, 0, none⟩)) L T 2 e w' from fun w1 hb => by
      rw [← hT]
      by_cases c2 : o = 384
      · subst c2
        exact cby1W w1 F _ L (pw_below h hb) h1 h2 h3 hn a1 ha.2 _ b
      · have hb1 : 0 ≤ b ∧ b.toNat < L.length := by rcases hmo with h | h | h | h <;> omega
        obtain ⟨b1, rfl⟩ : ∃ b1 : Nat, b = b1 := ⟨b.toNat, by omega⟩
        rw [Int.toNat_natCast] at hb1 ⊢
        exact cby2W w1 F _ L (pw_below h hb) h1 h2 h3 hn (o - 256) (by unfold TM.isOp; rw [show o - 256 + 256 = o by omega]; exact hA2) (by omega) a1 b1 ha.2 hb1.2)
    rw [hT]
    clear HE h h1 h2 h3 hn oy hm hmo c hT hoo hA2 ha
    go_enter Try.func22, Try.ntmps22
    go_wp2_with (first
      | (go_at_call 36; refine (HA.out _).mono ?_; clear HA; rintro e w1 ⟨rfl, hb⟩; have HB1 := stp HB hb; have HN1 := hid (HN.out.below hb); clear hb q0 q1 q2 q3 qf HN HB; obtain ⟨q0, q1, q2, q3, qf⟩ := HN1.out.cells)
      | (go_at_call 20; refine (HR.out _ HB1.out).mono ?_; clear HR; rintro e w4 hZ; replace hZ := PoolAt.below HB1.out hZ; obtain ⟨F9, L9, p9, rfl, hZ⟩ := hZ; have HZ := hid hZ; clear hZ HB1 HN1 q0 q1 q2 q3 qf))
    go_ret
    exact ⟨F9, L9, p9, rfl, HZ.out⟩

/-- within All's and Normal's loops: the wide pool, and where the terms stand in it -/
structure AnSt (W2 wr : World) (g m pb : Nat) (T : Nat → TM.Tr) (k : Nat) (F : Nat → Prop) (L : List TM.N) (V : Nat → Nat) : Prop where
  pl : Pw wr F (.pointer (some ⟨pb, 0, none⟩)) L
  row : TM.Row L
  once : TM.Once L
  ok : ∀ x ∈ L, TM.okN x
  len : L.length ≤ 3 * k
  at_ : ∀ j, j < k → V j < L.length ∧ TM.tr L (V j) = T j
  rw : Row wr g m (fun j => .int .i64 ((V j : Nat) : Int))
  ng : ¬ F g
  fr : ∀ b, F b → W2.heap.size ≤ b
  gb : W2.heap.size ≤ g
  bl : Below W2.heap.size W2 wr
theorem AnSt.below {W2 wr wr' : World} {g m pb : Nat} {T : Nat → TM.Tr} {k : Nat} {F : Nat → Prop} {L : List TM.N} {V : Nat → Nat} (h : AnSt W2 wr g m pb T k F L V) (hb : Below wr.heap.size wr wr') : AnSt W2 wr' g m pb T k F L V :=
  ⟨pw_below h.pl hb, h.row, h.once, h.ok, h.len, h.at_, h.rw.below hb, h.ng, h.fr, h.gb, h.bl.trans (hb.mono h.bl.size)⟩
/-- a call has put something in -/
theorem AnSt.call {W2 wr w' : World} {g m pb : Nat} {T : Nat → TM.Tr} {k : Nat} {F F' : Nat → Prop} {L L' : List TM.N} {V : Nat → Nat} {t : TM.Tr} {p B K : Nat} (h : AnSt W2 wr g m pb T k F L V) (hM : TM.Made L L' t p) (hl : L'.length ≤ L.length + B) (hP : Pw w' F' (.pointer (some ⟨pb, 0, none⟩)) L') (hF : Fr wr w' F) (hF2 : ∀ b, F' b → F b ∨ wr.heap.size ≤ b) :
    Row w' g m (fun j => .int .i64 ((V j : Nat) : Int)) ∧ ¬ F' g ∧ (∀ b, F' b → W2.heap.size ≤ b) ∧ Below W2.heap.size W2 w' ∧ (∀ j, j < k → V j < L'.length ∧ TM.tr L' (V j) = T j) := by
  refine ⟨h.rw.fr hF h.ng, fun e => ?_, fun b hb => ?_, hF.below h.bl h.fr h.bl.size, fun j hj => ?_⟩
  · rcases hF2 g e with e | e
    · exact h.ng e
    · have := h.rw.lt; omega
  · rcases hF2 b hb with e | e
    · exact h.fr b e
    · exact Nat.le_trans h.bl.size e
  · obtain ⟨h1, h2⟩ := h.at_ j hj
    exact ⟨Nat.lt_of_lt_of_le h1 hM.len, by rw [(hM.keep h1).2]; exact h2⟩
end Go.Proofs.Ytapbeffjnpgglab.TB
