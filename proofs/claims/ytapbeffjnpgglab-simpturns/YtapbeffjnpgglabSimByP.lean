/-
  The program's rules of layer 12 over term's pool: ofNumber, as a walk over the Go text.
-/
import Derived.Test.YtapbeffjnpgglabSimRulP
namespace Go.Proofs.Ytapbeffjnpgglab.TB
open Go.ChangeShapes Go.WideShapes Go.ChangeAt Go.RowKit
open Go.Sort hiding Below
set_option linter.unusedVariables false
set_option maxRecDepth 100000

set_option maxHeartbeats 6400000 in
theorem cofNP (W : World) (F : Nat → Prop) (v : Value) (L : List TM.N) (h : Pl W F v L) (h1 : TM.Row L) (h2 : TM.Once L) (h3 : ∀ x ∈ L, TM.okN x) (hn : L.length < 65530) (op : Int) (ho : TM.isOp op = true) (ho2 : op ≠ 128) (a : Nat) (ha : a < L.length) (k : Int) (hk : TM.W32 k) :
    Calls Try.prog 32 #[.iface 29 v, .int .i64 op, .int .i64 a, .int .u32 k] W fun e w' => PoolAt Pl W F v L (TM.ofN op (TM.tr L a) k) 2 e w' := by
  rw [← TM.ofN_sh]
  have hm := metPP
  have hm2 := metAP
  have hw := binOp_add_opP ho
  have hks := TM.shK_w32 (op := op) hk
  have hk2 := TM.shK_twice op k
  have hdef : TM.shK op k = if op = 96 ∨ op = 112 then k % 32 else k := rfl
  obtain ⟨k0, hk0⟩ : ∃ k0, TM.shK op k = k0 := ⟨_, rfl⟩
  rw [hk0] at hks hk2 hdef ⊢
  obtain ⟨T, hT⟩ : ∃ T, TM.ofN op (TM.tr L a) k0 = T := ⟨_, rfl⟩
  rw [hT]
  replace hT := hid hT
  have HH := hid (And.intro h (And.intro h1 (And.intro h2 (And.intro h3 (And.intro hn (And.intro ho ho2))))))
  have hk1 := hk.1
  clear h h1 h2 h3 hn ho ho2 hk hk0
  by_cases s1 : op = 96 ∨ op = 112
  · rw [if_pos s1] at hdef
    have hdef : k % 32 = k0 := hdef.symm
    rcases s1 with rfl | rfl
    · go_enter Try.func32, Try.ntmps32
      go_wp2
      go_loopw [2, 3] (fun s2 s3 wr => ∃ (a' : Nat) (k' : Int), s2 = .int .i64 a' ∧ s3 = .int .u32 k' ∧ a' < L.length ∧ Hid (TM.W32 k' ∧ TM.shK 96 k' = k' ∧ TM.ofN 96 (TM.tr L a') k' = T ∧ Below W.heap.size W wr)) (fun s2 _ _ => (intOf s2).toNat)
      case atStart => exact ⟨a, k0, rfl, by first | rfl | rw [hdef], ha, hks, hk2, hT.out, Below.refl _ _⟩
      case round =>
        clear hw hks hk2 hdef
        obtain ⟨a', k', rfl, rfl, ha', HR⟩ := hrel
        have HLt := hid (show ∀ w1, Below wr.heap.size wr w1 → Below W.heap.size W w1 ∧ Pl w1 F v L from fun w1 hb => ⟨HR.out.2.2.2.trans (hb.mono HR.out.2.2.2.size), pl_below HH.out.1 (HR.out.2.2.2.trans (hb.mono HR.out.2.2.2.size))⟩)
        have hx0 := TM.nat0_eq ha'
        have hmo := TM.may_ok (HH.out.2.1.2 a' ha')
        have hok := TM.nat0_ok HH.out.2.2.2.1 a'
        have hnm := TM.nm_row HH.out.2.1 ha'
        have hch := TM.chn_row HH.out.2.1 ha' HH.out.2.2.2.2.2.2
        rw [show (256 + 96 : Int) = 352 from rfl] at hch
        obtain ⟨x, hx⟩ : ∃ x, L[a'] = x := ⟨_, rfl⟩
        rw [hx] at hx0
        rw [hx0] at hmo hok hnm hch
        obtain ⟨xo, xa, xb, xk⟩ := x
        simp only at hmo hok hnm hch
        have HA := hid (pl_has wr F v L a' (HLt.out wr (Below.refl _ _)).2 ha' xo xa xb xk hx)
        have hko := hok.2.2.2
        have HNm := hid (show ∀ w1, Below wr.heap.size wr w1 → ∀ k, TM.W32 k → Calls Try.prog 18 #[.iface 29 v, .int .u32 k] w1 fun e w' => PoolAt Pl w1 F v L (.num k) 2 e w' from fun w1 hb k hk => (cnumberP w1 F v L (HLt.out w1 hb).2 HH.out.2.1 HH.out.2.2.1 HH.out.2.2.2.1 (by have := HH.out.2.2.2.2.1; omega) k hk).mono (fun e w' h => h.mono (by omega)))
        by_cases c1 : xo = 1
        · subst c1
          rw [if_pos rfl] at hnm
          have hTT := HR.out.2.2.1
          rw [TM.ofN_num hnm] at hTT
          have HRk := hid (fun w => creckoned 96 xk k' HH.out.2.2.2.2.2.1 hko HR.out.1 w)
          have HE := hid (And.intro hTT (TM.told_w32 96 xk k'))
          clear hmo hok hnm hch hx hx0 hko hTT
          go_wp2_with (first
            | (go_at_call 12; refine HA.out.mono ?_; clear HA; rintro e w1 ⟨rfl, hb⟩; have HB := stp (hid hb) (al w1 (.cells #[.int .i64 1, .int .i64 xa, .int .i64 xb, .int .u32 xk] 40)); have HN := hid (NAt.new w1 1 xa xb xk); obtain ⟨q0, q1, q2, q3, qf⟩ := HN.out.cells; clear hb)
            | (go_at_call 42; refine (HRk.out _).mono ?_; clear HRk; rintro e w2 ⟨rfl, hb⟩; have HB2 := stp HB hb; clear hb HB q0 q1 q2 q3 qf HN)
            | (go_at_call 18; refine (HNm.out _ HB2.out _ HE.out.2).mono ?_; clear HNm; rintro e w3 hZ; replace hZ := PoolAt.below (HLt.out _ HB2.out).1 hZ; rw [HE.out.1] at hZ; obtain ⟨F9, L9, p9, rfl, hZ⟩ := hZ; have HZ := hid hZ; clear hZ HB2 HLt HR HE))
          go_ret2
          exact ⟨F9, L9, p9, rfl, HZ.out⟩
        · rw [if_neg c1] at hnm
          have d1 : (xo == 1) = false := beq_eq_false_iff_ne.2 c1
          have HLv := hid (fun w => cleaves 96 k' HH.out.2.2.2.2.2.1 w)
          have HSw := hid (fun w => cswallows 96 k' HH.out.2.2.2.2.2.1 w)
          cases hl : TM.idleB 96 k' with
          | true =>
            rw [hl] at HLv
            have HE := hid (show TM.tr L a' = T from by rw [← HR.out.2.2.1, TM.ofN_idle hnm HR.out.2.1 hl])
            clear hmo hok hnm hch hx hx0 hko hl HNm HSw c1
            go_wp2_with (first
              | (go_at_call 12; refine HA.out.mono ?_; clear HA; rintro e w1 ⟨rfl, hb⟩; have HB := stp (hid hb) (al w1 (.cells #[.int .i64 xo, .int .i64 xa, .int .i64 xb, .int .u32 xk] 40)); have HN := hid (NAt.new w1 xo xa xb xk); obtain ⟨q0, q1, q2, q3, qf⟩ := HN.out.cells; clear hb)
              | (go_at_call 43; refine (HLv.out _).mono ?_; clear HLv; rintro e w2 ⟨rfl, hb⟩; have HB2 := stp HB hb; clear hb HB q0 q1 q2 q3 qf HN))
            go_ret2
            exact PoolAt.here (HLt.out _ HB2.out).2 HH.out.2.1 HH.out.2.2.1 HH.out.2.2.2.1 ha' HE.out 2 (HLt.out _ HB2.out).1
          | false =>
            rw [hl] at HLv
            cases hz : (TM.zeroB 96 k' || TM.fullB 96 k') with
            | true =>
              rw [hz] at HSw
              have HE := hid (show .num k' = T from by rw [← HR.out.2.2.1, TM.ofN_zero hnm HR.out.2.1 hl hz])
              clear hmo hok hnm hch hx hx0 hko hl hz c1
              go_wp2_with (first
                | (go_at_call 12; refine HA.out.mono ?_; clear HA; rintro e w1 ⟨rfl, hb⟩; have HB := stp (hid hb) (al w1 (.cells #[.int .i64 xo, .int .i64 xa, .int .i64 xb, .int .u32 xk] 40)); have HN := hid (NAt.new w1 xo xa xb xk); obtain ⟨q0, q1, q2, q3, qf⟩ := HN.out.cells; clear hb)
                | (go_at_call 43; refine (HLv.out _).mono ?_; clear HLv; rintro e w2 ⟨rfl, hb⟩; have HB2 := stp HB hb; clear hb HB q0 q1 q2 q3 qf HN)
                | (go_at_call 44; refine (HSw.out _).mono ?_; clear HSw; rintro e w3 ⟨rfl, hb⟩; have HB3 := stp HB2 hb; clear hb HB2)
                | (go_at_call 18; refine (HNm.out _ HB3.out _ HR.out.1).mono ?_; clear HNm; rintro e w4 hZ; replace hZ := PoolAt.below (HLt.out _ HB3.out).1 hZ; rw [HE.out] at hZ; obtain ⟨F9, L9, p9, rfl, hZ⟩ := hZ; have HZ := hid hZ; clear hZ HB3 HLt HR HE))
              go_ret2
              exact ⟨F9, L9, p9, rfl, HZ.out⟩
            | false =>
              rw [hz] at HSw
              have hxb : 0 ≤ xb ∧ xb.toNat < L.length := by rcases hmo with h | h | h | h <;> omega
              obtain ⟨b1, rfl⟩ : ∃ b1 : Nat, xb = b1 := ⟨xb.toNat, by omega⟩
              rw [Int.toNat_natCast] at hxb hch
              have hb1 : b1 < L.length := hxb.2
              rw [TM.nat0_eq hb1] at hch
              have hyk := TM.nat0_ok HH.out.2.2.2.1 b1
              rw [TM.nat0_eq hb1] at hyk
              obtain ⟨y, hy⟩ : ∃ y, L[b1] = y := ⟨_, rfl⟩
              rw [hy] at hch hyk
              obtain ⟨yo, ya, yb, yk⟩ := y
              simp only at hch hyk
              have hyk2 := hyk.2.2.2
              have HNA := hid (show ∀ w1, Below wr.heap.size wr w1 → Calls Try.prog 31 #[.iface 29 v, .int .i64 (b1 : Int)] w1 fun e w' => e = .returned (.tuple #[.int .u32 yk, .bool (yo == 1)]) ∧ Below w1.heap.size w1 w' from fun w1 hb => cnumAtP w1 F v L (HLt.out w1 hb).2 b1 hb1 yo ya yb yk hy)
              have HTn := hid (fun w => cturns 96 HH.out.2.2.2.2.2.1 w)
              have HWN := hid (show ∀ w1, Below wr.heap.size wr w1 → Calls Try.prog 45 #[.iface 29 v, .int .i64 96, .int .i64 (a' : Int), .int .u32 k'] w1 fun e w' => PoolAt Pl w1 F v L (TM.op2 96 (TM.tr L a') (.num k')) 2 e w' from fun w1 hb => cwithP w1 F v L (HLt.out w1 hb).2 HH.out.2.1 HH.out.2.2.1 HH.out.2.2.2.1 HH.out.2.2.2.2.1 96 HH.out.2.2.2.2.2.1 HH.out.2.2.2.2.2.2 a' ha' k' HR.out.1)
              by_cases g : TM.trn 96 = true ∧ xo = 352 ∧ yo = 1
              · exact absurd g.1 (by decide)
              · rw [if_neg g] at hch
                have HE := hid (show TM.op2 96 (TM.tr L a') (.num k') = T from by rw [← HR.out.2.2.1, TM.ofN_op hnm HR.out.2.1 hl hz hch])
                clear hmo hok hnm hch hx hx0 hko hl hz hy hyk hyk2 hxb HNm
                have d2 : ∃ q2, (yo == 1) = q2 := ⟨_, rfl⟩
                have d3 : ∃ q3, (xo != 352) = q3 := ⟨_, rfl⟩
                have d4 : ∃ q4, TM.trn 96 = q4 := ⟨_, rfl⟩
                obtain ⟨z2, d2⟩ := d2
                obtain ⟨z3, d3⟩ := d3
                obtain ⟨z4, d4⟩ := d4
                have hno : z2 = true → z3 = false → z4 = true → False := fun h2 h3 h4 => g ⟨by rw [d4]; exact h4, by rw [h3] at d3; simpa using d3, by rw [h2] at d2; simpa using d2⟩
                rw [d2] at HNA
                rw [d4] at HTn
                clear d2 d4 g
                have hz3 : z2 = false ∨ (z2 = true ∧ z3 = true) ∨ (z2 = true ∧ z3 = false ∧ z4 = false) := by
                  cases z2 with
                  | false => exact .inl rfl
                  | true => cases z3 with
                    | true => exact .inr (.inl ⟨rfl, rfl⟩)
                    | false => cases z4 with
                      | true => exact (hno rfl rfl rfl).elim
                      | false => exact .inr (.inr ⟨rfl, rfl, rfl⟩)
                clear hno
                rcases hz3 with rfl | ⟨rfl, rfl⟩ | ⟨rfl, rfl, rfl⟩
                all_goals
                  go_wp2_with (first
                    | (go_at_call 12; refine HA.out.mono ?_; clear HA; rintro e w1 ⟨rfl, hb⟩; have HB := stp (hid hb) (al w1 (.cells #[.int .i64 xo, .int .i64 xa, .int .i64 b1, .int .u32 xk] 40)); have HN := hid (NAt.new w1 xo xa b1 xk); obtain ⟨q0, q1, q2, q3, qf⟩ := HN.out.cells; clear hb)
                    | (go_at_call 43; refine (HLv.out _).mono ?_; clear HLv; rintro e w2 ⟨rfl, hb⟩; have HB2 := stp HB hb; have HN2 := hid (HN.out.below hb); clear hb HB q0 q1 q2 q3 qf HN; obtain ⟨q0, q1, q2, q3, qf⟩ := HN2.out.cells)
                    | (go_at_call 44; refine (HSw.out _).mono ?_; clear HSw; rintro e w3 ⟨rfl, hb⟩; have HB3 := stp HB2 hb; have HN3 := hid (HN2.out.below hb); clear hb HB2 q0 q1 q2 q3 qf HN2; obtain ⟨q0, q1, q2, q3, qf⟩ := HN3.out.cells)
                    | (go_at_call 31; refine (HNA.out _ HB3.out).mono ?_; clear HNA; rintro e w4 ⟨rfl, hb⟩; have HB4 := stp HB3 hb; have HN4 := hid (HN3.out.below hb); clear hb HB3 q0 q1 q2 q3 qf HN3; obtain ⟨q0, q1, q2, q3, qf⟩ := HN4.out.cells)
                    | (go_at_call 33; refine (HTn.out _).mono ?_; clear HTn; rintro e w5 ⟨rfl, hb⟩; have HB5 := stp HB4 hb; clear hb)
                    | (go_at_call 45; refine (HWN.out _ (by first | exact HB5.out | exact HB4.out)).mono ?_; clear HWN; rintro e w7 hZ; replace hZ := PoolAt.below (HLt.out _ (by first | exact HB5.out | exact HB4.out)).1 hZ; rw [HE.out] at hZ; obtain ⟨F9, L9, p9, rfl, hZ⟩ := hZ; have HZ := hid hZ; clear hZ HLt HR HE))
                  go_ret2
                  exact ⟨F9, L9, p9, rfl, HZ.out⟩

    · go_enter Try.func32, Try.ntmps32
      go_wp2
      go_loopw [2, 3] (fun s2 s3 wr => ∃ (a' : Nat) (k' : Int), s2 = .int .i64 a' ∧ s3 = .int .u32 k' ∧ a' < L.length ∧ Hid (TM.W32 k' ∧ TM.shK 112 k' = k' ∧ TM.ofN 112 (TM.tr L a') k' = T ∧ Below W.heap.size W wr)) (fun s2 _ _ => (intOf s2).toNat)
      case atStart => exact ⟨a, k0, rfl, by first | rfl | rw [hdef], ha, hks, hk2, hT.out, Below.refl _ _⟩
      case round =>
        clear hw hks hk2 hdef
        obtain ⟨a', k', rfl, rfl, ha', HR⟩ := hrel
        have HLt := hid (show ∀ w1, Below wr.heap.size wr w1 → Below W.heap.size W w1 ∧ Pl w1 F v L from fun w1 hb => ⟨HR.out.2.2.2.trans (hb.mono HR.out.2.2.2.size), pl_below HH.out.1 (HR.out.2.2.2.trans (hb.mono HR.out.2.2.2.size))⟩)
        have hx0 := TM.nat0_eq ha'
        have hmo := TM.may_ok (HH.out.2.1.2 a' ha')
        have hok := TM.nat0_ok HH.out.2.2.2.1 a'
        have hnm := TM.nm_row HH.out.2.1 ha'
        have hch := TM.chn_row HH.out.2.1 ha' HH.out.2.2.2.2.2.2
        rw [show (256 + 112 : Int) = 368 from rfl] at hch
        obtain ⟨x, hx⟩ : ∃ x, L[a'] = x := ⟨_, rfl⟩
        rw [hx] at hx0
        rw [hx0] at hmo hok hnm hch
        obtain ⟨xo, xa, xb, xk⟩ := x
        simp only at hmo hok hnm hch
        have HA := hid (pl_has wr F v L a' (HLt.out wr (Below.refl _ _)).2 ha' xo xa xb xk hx)
        have hko := hok.2.2.2
        have HNm := hid (show ∀ w1, Below wr.heap.size wr w1 → ∀ k, TM.W32 k → Calls Try.prog 18 #[.iface 29 v, .int .u32 k] w1 fun e w' => PoolAt Pl w1 F v L (.num k) 2 e w' from fun w1 hb k hk => (cnumberP w1 F v L (HLt.out w1 hb).2 HH.out.2.1 HH.out.2.2.1 HH.out.2.2.2.1 (by have := HH.out.2.2.2.2.1; omega) k hk).mono (fun e w' h => h.mono (by omega)))
        by_cases c1 : xo = 1
        · subst c1
          rw [if_pos rfl] at hnm
          have hTT := HR.out.2.2.1
          rw [TM.ofN_num hnm] at hTT
          have HRk := hid (fun w => creckoned 112 xk k' HH.out.2.2.2.2.2.1 hko HR.out.1 w)
          have HE := hid (And.intro hTT (TM.told_w32 112 xk k'))
          clear hmo hok hnm hch hx hx0 hko hTT
          go_wp2_with (first
            | (go_at_call 12; refine HA.out.mono ?_; clear HA; rintro e w1 ⟨rfl, hb⟩; have HB := stp (hid hb) (al w1 (.cells #[.int .i64 1, .int .i64 xa, .int .i64 xb, .int .u32 xk] 40)); have HN := hid (NAt.new w1 1 xa xb xk); obtain ⟨q0, q1, q2, q3, qf⟩ := HN.out.cells; clear hb)
            | (go_at_call 42; refine (HRk.out _).mono ?_; clear HRk; rintro e w2 ⟨rfl, hb⟩; have HB2 := stp HB hb; clear hb HB q0 q1 q2 q3 qf HN)
            | (go_at_call 18; refine (HNm.out _ HB2.out _ HE.out.2).mono ?_; clear HNm; rintro e w3 hZ; replace hZ := PoolAt.below (HLt.out _ HB2.out).1 hZ; rw [HE.out.1] at hZ; obtain ⟨F9, L9, p9, rfl, hZ⟩ := hZ; have HZ := hid hZ; clear hZ HB2 HLt HR HE))
          go_ret2
          exact ⟨F9, L9, p9, rfl, HZ.out⟩
        · rw [if_neg c1] at hnm
          have d1 : (xo == 1) = false := beq_eq_false_iff_ne.2 c1
          have HLv := hid (fun w => cleaves 112 k' HH.out.2.2.2.2.2.1 w)
          have HSw := hid (fun w => cswallows 112 k' HH.out.2.2.2.2.2.1 w)
          cases hl : TM.idleB 112 k' with
          | true =>
            rw [hl] at HLv
            have HE := hid (show TM.tr L a' = T from by rw [← HR.out.2.2.1, TM.ofN_idle hnm HR.out.2.1 hl])
            clear hmo hok hnm hch hx hx0 hko hl HNm HSw c1
            go_wp2_with (first
              | (go_at_call 12; refine HA.out.mono ?_; clear HA; rintro e w1 ⟨rfl, hb⟩; have HB := stp (hid hb) (al w1 (.cells #[.int .i64 xo, .int .i64 xa, .int .i64 xb, .int .u32 xk] 40)); have HN := hid (NAt.new w1 xo xa xb xk); obtain ⟨q0, q1, q2, q3, qf⟩ := HN.out.cells; clear hb)
              | (go_at_call 43; refine (HLv.out _).mono ?_; clear HLv; rintro e w2 ⟨rfl, hb⟩; have HB2 := stp HB hb; clear hb HB q0 q1 q2 q3 qf HN))
            go_ret2
            exact PoolAt.here (HLt.out _ HB2.out).2 HH.out.2.1 HH.out.2.2.1 HH.out.2.2.2.1 ha' HE.out 2 (HLt.out _ HB2.out).1
          | false =>
            rw [hl] at HLv
            cases hz : (TM.zeroB 112 k' || TM.fullB 112 k') with
            | true =>
              rw [hz] at HSw
              have HE := hid (show .num k' = T from by rw [← HR.out.2.2.1, TM.ofN_zero hnm HR.out.2.1 hl hz])
              clear hmo hok hnm hch hx hx0 hko hl hz c1
              go_wp2_with (first
                | (go_at_call 12; refine HA.out.mono ?_; clear HA; rintro e w1 ⟨rfl, hb⟩; have HB := stp (hid hb) (al w1 (.cells #[.int .i64 xo, .int .i64 xa, .int .i64 xb, .int .u32 xk] 40)); have HN := hid (NAt.new w1 xo xa xb xk); obtain ⟨q0, q1, q2, q3, qf⟩ := HN.out.cells; clear hb)
                | (go_at_call 43; refine (HLv.out _).mono ?_; clear HLv; rintro e w2 ⟨rfl, hb⟩; have HB2 := stp HB hb; clear hb HB q0 q1 q2 q3 qf HN)
                | (go_at_call 44; refine (HSw.out _).mono ?_; clear HSw; rintro e w3 ⟨rfl, hb⟩; have HB3 := stp HB2 hb; clear hb HB2)
                | (go_at_call 18; refine (HNm.out _ HB3.out _ HR.out.1).mono ?_; clear HNm; rintro e w4 hZ; replace hZ := PoolAt.below (HLt.out _ HB3.out).1 hZ; rw [HE.out] at hZ; obtain ⟨F9, L9, p9, rfl, hZ⟩ := hZ; have HZ := hid hZ; clear hZ HB3 HLt HR HE))
              go_ret2
              exact ⟨F9, L9, p9, rfl, HZ.out⟩
            | false =>
              rw [hz] at HSw
              have hxb : 0 ≤ xb ∧ xb.toNat < L.length := by rcases hmo with h | h | h | h <;> omega
              obtain ⟨b1, rfl⟩ : ∃ b1 : Nat, xb = b1 := ⟨xb.toNat, by omega⟩
              rw [Int.toNat_natCast] at hxb hch
              have hb1 : b1 < L.length := hxb.2
              rw [TM.nat0_eq hb1] at hch
              have hyk := TM.nat0_ok HH.out.2.2.2.1 b1
              rw [TM.nat0_eq hb1] at hyk
              obtain ⟨y, hy⟩ : ∃ y, L[b1] = y := ⟨_, rfl⟩
              rw [hy] at hch hyk
              obtain ⟨yo, ya, yb, yk⟩ := y
              simp only at hch hyk
              have hyk2 := hyk.2.2.2
              have HNA := hid (show ∀ w1, Below wr.heap.size wr w1 → Calls Try.prog 31 #[.iface 29 v, .int .i64 (b1 : Int)] w1 fun e w' => e = .returned (.tuple #[.int .u32 yk, .bool (yo == 1)]) ∧ Below w1.heap.size w1 w' from fun w1 hb => cnumAtP w1 F v L (HLt.out w1 hb).2 b1 hb1 yo ya yb yk hy)
              have HTn := hid (fun w => cturns 112 HH.out.2.2.2.2.2.1 w)
              have HWN := hid (show ∀ w1, Below wr.heap.size wr w1 → Calls Try.prog 45 #[.iface 29 v, .int .i64 112, .int .i64 (a' : Int), .int .u32 k'] w1 fun e w' => PoolAt Pl w1 F v L (TM.op2 112 (TM.tr L a') (.num k')) 2 e w' from fun w1 hb => cwithP w1 F v L (HLt.out w1 hb).2 HH.out.2.1 HH.out.2.2.1 HH.out.2.2.2.1 HH.out.2.2.2.2.1 112 HH.out.2.2.2.2.2.1 HH.out.2.2.2.2.2.2 a' ha' k' HR.out.1)
              by_cases g : TM.trn 112 = true ∧ xo = 368 ∧ yo = 1
              · exact absurd g.1 (by decide)
              · rw [if_neg g] at hch
                have HE := hid (show TM.op2 112 (TM.tr L a') (.num k') = T from by rw [← HR.out.2.2.1, TM.ofN_op hnm HR.out.2.1 hl hz hch])
                clear hmo hok hnm hch hx hx0 hko hl hz hy hyk hyk2 hxb HNm
                have d2 : ∃ q2, (yo == 1) = q2 := ⟨_, rfl⟩
                have d3 : ∃ q3, (xo != 368) = q3 := ⟨_, rfl⟩
                have d4 : ∃ q4, TM.trn 112 = q4 := ⟨_, rfl⟩
                obtain ⟨z2, d2⟩ := d2
                obtain ⟨z3, d3⟩ := d3
                obtain ⟨z4, d4⟩ := d4
                have hno : z2 = true → z3 = false → z4 = true → False := fun h2 h3 h4 => g ⟨by rw [d4]; exact h4, by rw [h3] at d3; simpa using d3, by rw [h2] at d2; simpa using d2⟩
                rw [d2] at HNA
                rw [d4] at HTn
                clear d2 d4 g
                have hz3 : z2 = false ∨ (z2 = true ∧ z3 = true) ∨ (z2 = true ∧ z3 = false ∧ z4 = false) := by
                  cases z2 with
                  | false => exact .inl rfl
                  | true => cases z3 with
                    | true => exact .inr (.inl ⟨rfl, rfl⟩)
                    | false => cases z4 with
                      | true => exact (hno rfl rfl rfl).elim
                      | false => exact .inr (.inr ⟨rfl, rfl, rfl⟩)
                clear hno
                rcases hz3 with rfl | ⟨rfl, rfl⟩ | ⟨rfl, rfl, rfl⟩
                all_goals
                  go_wp2_with (first
                    | (go_at_call 12; refine HA.out.mono ?_; clear HA; rintro e w1 ⟨rfl, hb⟩; have HB := stp (hid hb) (al w1 (.cells #[.int .i64 xo, .int .i64 xa, .int .i64 b1, .int .u32 xk] 40)); have HN := hid (NAt.new w1 xo xa b1 xk); obtain ⟨q0, q1, q2, q3, qf⟩ := HN.out.cells; clear hb)
                    | (go_at_call 43; refine (HLv.out _).mono ?_; clear HLv; rintro e w2 ⟨rfl, hb⟩; have HB2 := stp HB hb; have HN2 := hid (HN.out.below hb); clear hb HB q0 q1 q2 q3 qf HN; obtain ⟨q0, q1, q2, q3, qf⟩ := HN2.out.cells)
                    | (go_at_call 44; refine (HSw.out _).mono ?_; clear HSw; rintro e w3 ⟨rfl, hb⟩; have HB3 := stp HB2 hb; have HN3 := hid (HN2.out.below hb); clear hb HB2 q0 q1 q2 q3 qf HN2; obtain ⟨q0, q1, q2, q3, qf⟩ := HN3.out.cells)
                    | (go_at_call 31; refine (HNA.out _ HB3.out).mono ?_; clear HNA; rintro e w4 ⟨rfl, hb⟩; have HB4 := stp HB3 hb; have HN4 := hid (HN3.out.below hb); clear hb HB3 q0 q1 q2 q3 qf HN3; obtain ⟨q0, q1, q2, q3, qf⟩ := HN4.out.cells)
                    | (go_at_call 33; refine (HTn.out _).mono ?_; clear HTn; rintro e w5 ⟨rfl, hb⟩; have HB5 := stp HB4 hb; clear hb)
                    | (go_at_call 45; refine (HWN.out _ (by first | exact HB5.out | exact HB4.out)).mono ?_; clear HWN; rintro e w7 hZ; replace hZ := PoolAt.below (HLt.out _ (by first | exact HB5.out | exact HB4.out)).1 hZ; rw [HE.out] at hZ; obtain ⟨F9, L9, p9, rfl, hZ⟩ := hZ; have HZ := hid hZ; clear hZ HLt HR HE))
                  go_ret2
                  exact ⟨F9, L9, p9, rfl, HZ.out⟩

  · rw [if_neg s1] at hdef
    subst hdef
    have t1 : (op == 96) = false := beq_eq_false_iff_ne.2 (fun e => s1 (.inl e))
    have t2 : (op == 112) = false := beq_eq_false_iff_ne.2 (fun e => s1 (.inr e))
    clear s1
    go_enter Try.func32, Try.ntmps32
    go_wp2
    go_loopw [2, 3] (fun s2 s3 wr => ∃ (a' : Nat) (k' : Int), s2 = .int .i64 a' ∧ s3 = .int .u32 k' ∧ a' < L.length ∧ Hid (TM.W32 k' ∧ TM.shK op k' = k' ∧ TM.ofN op (TM.tr L a') k' = T ∧ Below W.heap.size W wr)) (fun s2 _ _ => (intOf s2).toNat)
    case atStart => exact ⟨a, k0, rfl, by first | rfl | rw [hdef], ha, hks, hk2, hT.out, Below.refl _ _⟩
    case round =>
      obtain ⟨a', k', rfl, rfl, ha', HR⟩ := hrel
      have HLt := hid (show ∀ w1, Below wr.heap.size wr w1 → Below W.heap.size W w1 ∧ Pl w1 F v L from fun w1 hb => ⟨HR.out.2.2.2.trans (hb.mono HR.out.2.2.2.size), pl_below HH.out.1 (HR.out.2.2.2.trans (hb.mono HR.out.2.2.2.size))⟩)
      have hx0 := TM.nat0_eq ha'
      have hmo := TM.may_ok (HH.out.2.1.2 a' ha')
      have hok := TM.nat0_ok HH.out.2.2.2.1 a'
      have hnm := TM.nm_row HH.out.2.1 ha'
      have hch := TM.chn_row HH.out.2.1 ha' HH.out.2.2.2.2.2.2
      obtain ⟨x, hx⟩ : ∃ x, L[a'] = x := ⟨_, rfl⟩
      rw [hx] at hx0
      rw [hx0] at hmo hok hnm hch
      obtain ⟨xo, xa, xb, xk⟩ := x
      simp only at hmo hok hnm hch
      have HA := hid (pl_has wr F v L a' (HLt.out wr (Below.refl _ _)).2 ha' xo xa xb xk hx)
      have hko := hok.2.2.2
      have HNm := hid (show ∀ w1, Below wr.heap.size wr w1 → ∀ k, TM.W32 k → Calls Try.prog 18 #[.iface 29 v, .int .u32 k] w1 fun e w' => PoolAt Pl w1 F v L (.num k) 2 e w' from fun w1 hb k hk => (cnumberP w1 F v L (HLt.out w1 hb).2 HH.out.2.1 HH.out.2.2.1 HH.out.2.2.2.1 (by have := HH.out.2.2.2.2.1; omega) k hk).mono (fun e w' h => h.mono (by omega)))
      by_cases c1 : xo = 1
      · subst c1
        rw [if_pos rfl] at hnm
        have hTT := HR.out.2.2.1
        rw [TM.ofN_num hnm] at hTT
        have HRk := hid (fun w => creckoned op xk k' HH.out.2.2.2.2.2.1 hko HR.out.1 w)
        have HE := hid (And.intro hTT (TM.told_w32 op xk k'))
        clear hmo hok hnm hch hx hx0 hko hTT
        go_wp2_with (first
          | (go_at_call 12; refine HA.out.mono ?_; clear HA; rintro e w1 ⟨rfl, hb⟩; have HB := stp (hid hb) (al w1 (.cells #[.int .i64 1, .int .i64 xa, .int .i64 xb, .int .u32 xk] 40)); have HN := hid (NAt.new w1 1 xa xb xk); obtain ⟨q0, q1, q2, q3, qf⟩ := HN.out.cells; clear hb)
          | (go_at_call 42; refine (HRk.out _).mono ?_; clear HRk; rintro e w2 ⟨rfl, hb⟩; have HB2 := stp HB hb; clear hb HB q0 q1 q2 q3 qf HN)
          | (go_at_call 18; refine (HNm.out _ HB2.out _ HE.out.2).mono ?_; clear HNm; rintro e w3 hZ; replace hZ := PoolAt.below (HLt.out _ HB2.out).1 hZ; rw [HE.out.1] at hZ; obtain ⟨F9, L9, p9, rfl, hZ⟩ := hZ; have HZ := hid hZ; clear hZ HB2 HLt HR HE))
        go_ret2
        exact ⟨F9, L9, p9, rfl, HZ.out⟩
      · rw [if_neg c1] at hnm
        have d1 : (xo == 1) = false := beq_eq_false_iff_ne.2 c1
        have HLv := hid (fun w => cleaves op k' HH.out.2.2.2.2.2.1 w)
        have HSw := hid (fun w => cswallows op k' HH.out.2.2.2.2.2.1 w)
        cases hl : TM.idleB op k' with
        | true =>
          rw [hl] at HLv
          have HE := hid (show TM.tr L a' = T from by rw [← HR.out.2.2.1, TM.ofN_idle hnm HR.out.2.1 hl])
          clear hmo hok hnm hch hx hx0 hko hl HNm HSw c1
          go_wp2_with (first
            | (go_at_call 12; refine HA.out.mono ?_; clear HA; rintro e w1 ⟨rfl, hb⟩; have HB := stp (hid hb) (al w1 (.cells #[.int .i64 xo, .int .i64 xa, .int .i64 xb, .int .u32 xk] 40)); have HN := hid (NAt.new w1 xo xa xb xk); obtain ⟨q0, q1, q2, q3, qf⟩ := HN.out.cells; clear hb)
            | (go_at_call 43; refine (HLv.out _).mono ?_; clear HLv; rintro e w2 ⟨rfl, hb⟩; have HB2 := stp HB hb; clear hb HB q0 q1 q2 q3 qf HN))
          go_ret2
          exact PoolAt.here (HLt.out _ HB2.out).2 HH.out.2.1 HH.out.2.2.1 HH.out.2.2.2.1 ha' HE.out 2 (HLt.out _ HB2.out).1
        | false =>
          rw [hl] at HLv
          cases hz : (TM.zeroB op k' || TM.fullB op k') with
          | true =>
            rw [hz] at HSw
            have HE := hid (show .num k' = T from by rw [← HR.out.2.2.1, TM.ofN_zero hnm HR.out.2.1 hl hz])
            clear hmo hok hnm hch hx hx0 hko hl hz c1
            go_wp2_with (first
              | (go_at_call 12; refine HA.out.mono ?_; clear HA; rintro e w1 ⟨rfl, hb⟩; have HB := stp (hid hb) (al w1 (.cells #[.int .i64 xo, .int .i64 xa, .int .i64 xb, .int .u32 xk] 40)); have HN := hid (NAt.new w1 xo xa xb xk); obtain ⟨q0, q1, q2, q3, qf⟩ := HN.out.cells; clear hb)
              | (go_at_call 43; refine (HLv.out _).mono ?_; clear HLv; rintro e w2 ⟨rfl, hb⟩; have HB2 := stp HB hb; clear hb HB q0 q1 q2 q3 qf HN)
              | (go_at_call 44; refine (HSw.out _).mono ?_; clear HSw; rintro e w3 ⟨rfl, hb⟩; have HB3 := stp HB2 hb; clear hb HB2)
              | (go_at_call 18; refine (HNm.out _ HB3.out _ HR.out.1).mono ?_; clear HNm; rintro e w4 hZ; replace hZ := PoolAt.below (HLt.out _ HB3.out).1 hZ; rw [HE.out] at hZ; obtain ⟨F9, L9, p9, rfl, hZ⟩ := hZ; have HZ := hid hZ; clear hZ HB3 HLt HR HE))
            go_ret2
            exact ⟨F9, L9, p9, rfl, HZ.out⟩
          | false =>
            rw [hz] at HSw
            have hxb : 0 ≤ xb ∧ xb.toNat < L.length := by rcases hmo with h | h | h | h <;> omega
            obtain ⟨b1, rfl⟩ : ∃ b1 : Nat, xb = b1 := ⟨xb.toNat, by omega⟩
            rw [Int.toNat_natCast] at hxb hch
            have hb1 : b1 < L.length := hxb.2
            rw [TM.nat0_eq hb1] at hch
            have hyk := TM.nat0_ok HH.out.2.2.2.1 b1
            rw [TM.nat0_eq hb1] at hyk
            obtain ⟨y, hy⟩ : ∃ y, L[b1] = y := ⟨_, rfl⟩
            rw [hy] at hch hyk
            obtain ⟨yo, ya, yb, yk⟩ := y
            simp only at hch hyk
            have hyk2 := hyk.2.2.2
            have HNA := hid (show ∀ w1, Below wr.heap.size wr w1 → Calls Try.prog 31 #[.iface 29 v, .int .i64 (b1 : Int)] w1 fun e w' => e = .returned (.tuple #[.int .u32 yk, .bool (yo == 1)]) ∧ Below w1.heap.size w1 w' from fun w1 hb => cnumAtP w1 F v L (HLt.out w1 hb).2 b1 hb1 yo ya yb yk hy)
            have HTn := hid (fun w => cturns op HH.out.2.2.2.2.2.1 w)
            have HWN := hid (show ∀ w1, Below wr.heap.size wr w1 → Calls Try.prog 45 #[.iface 29 v, .int .i64 op, .int .i64 (a' : Int), .int .u32 k'] w1 fun e w' => PoolAt Pl w1 F v L (TM.op2 op (TM.tr L a') (.num k')) 2 e w' from fun w1 hb => cwithP w1 F v L (HLt.out w1 hb).2 HH.out.2.1 HH.out.2.2.1 HH.out.2.2.2.1 HH.out.2.2.2.2.1 op HH.out.2.2.2.2.2.1 HH.out.2.2.2.2.2.2 a' ha' k' HR.out.1)
            by_cases g : TM.trn op = true ∧ xo = 256 + op ∧ yo = 1
            · obtain ⟨g1, rfl, rfl⟩ := g
              rw [if_pos ⟨g1, rfl, rfl⟩] at hch
              have hgo := TM.trn_iff.1 g1
              have hxa : 0 ≤ xa ∧ xa < a' := by
                rcases hmo with h | h | h | h
                · omega
                · omega
                · omega
                · omega
              obtain ⟨a1, rfl⟩ : ∃ a1 : Nat, xa = a1 := ⟨xa.toNat, by omega⟩
              rw [Int.toNat_natCast] at hch
              have ha1 : a1 < L.length := by omega
              have HE := hid (show TM.W32 (TM.told op yk k') ∧ TM.shK op (TM.told op yk k') = TM.told op yk k' ∧ TM.ofN op (TM.tr L a1) (TM.told op yk k') = T from ⟨TM.told_w32 _ _ _, TM.trn_sh g1 _, by rw [← TM.ofN_on hnm HR.out.2.1 hl hz hch]; exact HR.out.2.2.1⟩)
              have HRk := hid (fun w => creckoned0 op yk k' HH.out.2.2.2.2.2.1 hyk2 HR.out.1 w)
              rw [g1] at HTn
              have hlt1 : a1 < a' := by omega
              have e1 : ((256 + op : Int) != 256 + op) = false := bne_self_eq_false _
              clear hmo hok hnm hch hx hx0 hko hl hz c1 hy hyk hyk2 hxa hxb hgo HWN HNm g1
              go_wp2_with (first
                | (go_at_call 12; refine HA.out.mono ?_; clear HA; rintro e w1 ⟨rfl, hb⟩; have HB := stp (hid hb) (al w1 (.cells #[.int .i64 (256 + op), .int .i64 a1, .int .i64 b1, .int .u32 xk] 40)); have HN := hid (NAt.new w1 (256 + op) a1 b1 xk); obtain ⟨q0, q1, q2, q3, qf⟩ := HN.out.cells; clear hb)
                | (go_at_call 43; refine (HLv.out _).mono ?_; clear HLv; rintro e w2 ⟨rfl, hb⟩; have HB2 := stp HB hb; have HN2 := hid (HN.out.below hb); clear hb HB q0 q1 q2 q3 qf HN; obtain ⟨q0, q1, q2, q3, qf⟩ := HN2.out.cells)
                | (go_at_call 44; refine (HSw.out _).mono ?_; clear HSw; rintro e w3 ⟨rfl, hb⟩; have HB3 := stp HB2 hb; have HN3 := hid (HN2.out.below hb); clear hb HB2 q0 q1 q2 q3 qf HN2; obtain ⟨q0, q1, q2, q3, qf⟩ := HN3.out.cells)
                | (go_at_call 31; refine (HNA.out _ HB3.out).mono ?_; clear HNA; rintro e w4 ⟨rfl, hb⟩; have HB4 := stp HB3 hb; have HN4 := hid (HN3.out.below hb); clear hb HB3 q0 q1 q2 q3 qf HN3; obtain ⟨q0, q1, q2, q3, qf⟩ := HN4.out.cells)
                | (go_at_call 33; refine (HTn.out _).mono ?_; clear HTn; rintro e w5 ⟨rfl, hb⟩; have HB5 := stp HB4 hb; have HN5 := hid (HN4.out.below hb); clear hb HB4 q0 q1 q2 q3 qf HN4; obtain ⟨q0, q1, q2, q3, qf⟩ := HN5.out.cells))
              go_region_with (go_at_call 42; refine (HRk.out _).mono ?_; rintro e w6 ⟨rfl, rfl⟩)
              all_goals
                go_wp2
                simp only [Act.put, List.getElem_toArray, List.getElem_cons_succ, List.getElem_cons_zero, List.setIfInBounds_toArray, List.set_cons_zero, List.set_cons_succ]
                go_roundw
                case rel => exact ⟨a1, TM.told op yk k', rfl, rfl, ha1, HE.out.1, HE.out.2.1, HE.out.2.2, (HLt.out _ (bdrewB HB5.out)).1⟩
                case measure => simp [intOf]; omega
            · rw [if_neg g] at hch
              have HE := hid (show TM.op2 op (TM.tr L a') (.num k') = T from by rw [← HR.out.2.2.1, TM.ofN_op hnm HR.out.2.1 hl hz hch])
              clear hmo hok hnm hch hx hx0 hko hl hz hy hyk hyk2 hxb HNm
              have d2 : ∃ q2, (yo == 1) = q2 := ⟨_, rfl⟩
              have d3 : ∃ q3, (xo != 256 + op) = q3 := ⟨_, rfl⟩
              have d4 : ∃ q4, TM.trn op = q4 := ⟨_, rfl⟩
              obtain ⟨z2, d2⟩ := d2
              obtain ⟨z3, d3⟩ := d3
              obtain ⟨z4, d4⟩ := d4
              have hno : z2 = true → z3 = false → z4 = true → False := fun h2 h3 h4 => g ⟨by rw [d4]; exact h4, by rw [h3] at d3; simpa using d3, by rw [h2] at d2; simpa using d2⟩
              rw [d2] at HNA
              rw [d4] at HTn
              clear d2 d4 g
              have hz3 : z2 = false ∨ (z2 = true ∧ z3 = true) ∨ (z2 = true ∧ z3 = false ∧ z4 = false) := by
                cases z2 with
                | false => exact .inl rfl
                | true => cases z3 with
                  | true => exact .inr (.inl ⟨rfl, rfl⟩)
                  | false => cases z4 with
                    | true => exact (hno rfl rfl rfl).elim
                    | false => exact .inr (.inr ⟨rfl, rfl, rfl⟩)
              clear hno
              rcases hz3 with rfl | ⟨rfl, rfl⟩ | ⟨rfl, rfl, rfl⟩
              all_goals
                go_wp2_with (first
                  | (go_at_call 12; refine HA.out.mono ?_; clear HA; rintro e w1 ⟨rfl, hb⟩; have HB := stp (hid hb) (al w1 (.cells #[.int .i64 xo, .int .i64 xa, .int .i64 b1, .int .u32 xk] 40)); have HN := hid (NAt.new w1 xo xa b1 xk); obtain ⟨q0, q1, q2, q3, qf⟩ := HN.out.cells; clear hb)
                  | (go_at_call 43; refine (HLv.out _).mono ?_; clear HLv; rintro e w2 ⟨rfl, hb⟩; have HB2 := stp HB hb; have HN2 := hid (HN.out.below hb); clear hb HB q0 q1 q2 q3 qf HN; obtain ⟨q0, q1, q2, q3, qf⟩ := HN2.out.cells)
                  | (go_at_call 44; refine (HSw.out _).mono ?_; clear HSw; rintro e w3 ⟨rfl, hb⟩; have HB3 := stp HB2 hb; have HN3 := hid (HN2.out.below hb); clear hb HB2 q0 q1 q2 q3 qf HN2; obtain ⟨q0, q1, q2, q3, qf⟩ := HN3.out.cells)
                  | (go_at_call 31; refine (HNA.out _ HB3.out).mono ?_; clear HNA; rintro e w4 ⟨rfl, hb⟩; have HB4 := stp HB3 hb; have HN4 := hid (HN3.out.below hb); clear hb HB3 q0 q1 q2 q3 qf HN3; obtain ⟨q0, q1, q2, q3, qf⟩ := HN4.out.cells)
                  | (go_at_call 33; refine (HTn.out _).mono ?_; clear HTn; rintro e w5 ⟨rfl, hb⟩; have HB5 := stp HB4 hb; clear hb)
                  | (go_at_call 45; refine (HWN.out _ (by first | exact HB5.out | exact HB4.out)).mono ?_; clear HWN; rintro e w7 hZ; replace hZ := PoolAt.below (HLt.out _ (by first | exact HB5.out | exact HB4.out)).1 hZ; rw [HE.out] at hZ; obtain ⟨F9, L9, p9, rfl, hZ⟩ := hZ; have HZ := hid hZ; clear hZ HLt HR HE))
                go_ret2
                exact ⟨F9, L9, p9, rfl, HZ.out⟩

end Go.Proofs.Ytapbeffjnpgglab.TB
