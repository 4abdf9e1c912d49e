/-
  The program's rules of layer 12 over the wide pool: number, numberAt, withNumber, negative, as walks over the Go text.
-/
import Derived.Test.YtapbeffjnpgglabSC1
namespace Go.Proofs.Ytapbeffjnpgglab.TB
open Go.ChangeShapes Go.WideShapes Go.ChangeAt Go.RowKit
open Go.Sort hiding Below
set_option linter.unusedVariables false
set_option maxRecDepth 100000

theorem metPW (v : Value) (w : World) : (method 205 62 v "Put").run Try.prog w = .ok (26, v) w := by kernel_rfl
theorem metAW (v : Value) (w : World) : (method 205 62 v "At").run Try.prog w = .ok (65, v) w := by kernel_rfl
theorem qputW (W : World) (F : Nat → Prop) (v : Value) (L : List TM.N) (h : Pw W F v L) (h1 : TM.Row L) (h2 : TM.Once L) (h3 : ∀ x ∈ L, TM.okN x) (hn : L.length < 65536) (o a b k : Int) (ok : TM.okN (o, a, b, k)) (hm : TM.may (o, a, b, k) L.length = true) :
    Calls Try.prog 26 #[v, .agg #[.int .i64 o, .int .i64 a, .int .i64 b, .int .u32 k]] W fun e w' => PoolAt Pw W F v L (TM.trN (o, a, b, k) (TM.tr L)) 1 e w' := by
  obtain ⟨⟨L', p⟩, hp⟩ : ∃ q, TM.putN L (o, a, b, k) = q := ⟨_, rfl⟩
  have hM := TM.Made.put h1 h2 h3 hn ok hm hp
  have hl := (TM.putN_len L (o, a, b, k)).2
  rw [hp] at hl
  refine (pw_put W F v L o a b k ok h hn L' p hp).mono ?_
  rintro e w' ⟨F', rfl, g1, g2, g3⟩
  exact ⟨F', L', p, rfl, hM, hl, g1, g2, g3⟩

set_option maxHeartbeats 1600000 in
theorem cnumberW (W : World) (F : Nat → Prop) (v : Value) (L : List TM.N) (h : Pw W F v L) (h1 : TM.Row L) (h2 : TM.Once L) (h3 : ∀ x ∈ L, TM.okN x) (hn : L.length < 65536) (k : Int) (hk : TM.W32 k) :
    Calls Try.prog 18 #[.iface 62 v, .int .u32 k] W fun e w' => PoolAt Pw W F v L (.num k) 1 e w' := by
  have HP := hid (qputW W F v L h h1 h2 h3 hn 1 0 0 k (TM.ok_number hk) (TM.may_number k _))
  have hm := metPW
  clear h h1 h2 h3 hn hk
  go_enter Try.func18, Try.ntmps18
  go_wp2_with (go_at_call 26; refine HP.out.mono ?_; rintro e w1 ⟨F', L', p, rfl, hZ⟩; have HZ := hid hZ; clear hZ HP hm)
  go_ret2
  exact ⟨F', L', p, rfl, HZ.out⟩

set_option maxHeartbeats 1600000 in
theorem cnumAtW (W : World) (F : Nat → Prop) (v : Value) (L : List TM.N) (h : Pw W F v L) (i : Nat) (hi : i < L.length) (o a b k : Int) (hx : L[i] = (o, a, b, k)) :
    Calls Try.prog 31 #[.iface 62 v, .int .i64 i] W fun e w' => e = .returned (.tuple #[.int .u32 k, .bool (o == 1)]) ∧ Below W.heap.size W w' := by
  have HA := hid (pw_has W F v L i h hi o a b k hx)
  have hm := metAW
  clear h hi hx
  go_enter Try.func31, Try.ntmps31
  go_wp2_with (go_at_call 65; refine HA.out.mono ?_; rintro e w1 ⟨rfl, hb⟩; have HB := stp (hid hb) (al w1 (.cells #[.int .i64 o, .int .i64 a, .int .i64 b, .int .u32 k] 40)); have HN := hid (NAt.new w1 o a b k); obtain ⟨q0, q1, q2, q3, qf⟩ := HN.out.cells; clear hb HA hm)
  go_quiet (fail)
  go_wp2
  go_ret2
  exact ⟨rfl, bdrew HB.out nq⟩

theorem binOp_add_opW {op : Int} (ho : TM.isOp op = true) : IntKind.i64.wrap (256 + op) = 256 + op := Go.IntWalk.i64_in _ (by have := TM.isOp_iff.1 ho; omega)

set_option maxHeartbeats 1600000 in
theorem cwithW (W : World) (F : Nat → Prop) (v : Value) (L : List TM.N) (h : Pw W F v L) (h1 : TM.Row L) (h2 : TM.Once L) (h3 : ∀ x ∈ L, TM.okN x) (hn : L.length < 65530) (op : Int) (ho : TM.isOp op = true) (ho2 : op ≠ 128) (a : Nat) (ha : a < L.length) (k : Int) (hk : TM.W32 k) :
    Calls Try.prog 45 #[.iface 62 v, .int .i64 op, .int .i64 a, .int .u32 k] W fun e w' => PoolAt Pw W F v L (TM.op2 op (TM.tr L a) (.num k)) 2 e w' := by
  have HP := hid (cnumberW W F v L h h1 h2 h3 (by omega) k hk)
  have hw := binOp_add_opW ho
  have hm := metPW
  have HQ := hid (show ∀ (w1 : World) (F1 : Nat → Prop) (L1 : List TM.N) (p1 : Nat), TM.Made L L1 (.num k) p1 → L1.length ≤ L.length + 1 → Pw w1 F1 v L1 →
      Calls Try.prog 26 #[v, .agg #[.int .i64 (256 + op), .int .i64 a, .int .i64 p1, .int .u32 0]] w1 fun e w' => PoolAt Pw w1 F1 v L1 (TM.op2 op (TM.tr L a) (.num k)) 1 e w' from fun w1 F1 L1 p1 hM hl hP => by
    have hle := hM.len
    have hlt := hM.lt
    have q := qputW w1 F1 v L1 hP hM.row hM.once hM.ok (by omega) (256 + op) a p1 0 (TM.ok_op2 ho (by omega) (by omega)) (TM.may_op2 ho ho2 (by omega) hlt)
    rw [TM.tr_op2 ho ho2, hM.tr, (hM.keep ha).2] at q
    exact q)
  clear h h1 h2 h3 hn ho ho2 ha hk
  go_enter Try.func45, Try.ntmps45
  go_wp2_with (first
    | (go_at_call 18; refine HP.out.mono ?_; clear HP; rintro e w1 ⟨F1, L1, p1, rfl, hM, hl, hP, hF, hF2⟩; have HM := hid (And.intro hM hl); have HQ1 := hid (HQ.out w1 F1 L1 p1 hM hl hP); have HF := hid (And.intro hF hF2); clear hM hl hP hF hF2 HQ)
    | (go_at_call 26; refine HQ1.out.mono ?_; rintro e w2 ⟨F2, L2, p2, rfl, hM2, hl2, hP2, hF2, hF3⟩; have HZ := hid (show TM.Made L L2 (TM.op2 op (TM.tr L a) (.num k)) p2 ∧ L2.length ≤ L.length + 2 ∧ Pw w2 F2 v L2 ∧ Fr W w2 F ∧ (∀ b, F2 b → F b ∨ W.heap.size ≤ b) from ⟨HM.out.1.trans hM2, (by have := HM.out.2; omega), hP2, HF.out.1.comp hF2 HF.out.2, fun b hb => by
      rcases hF3 b hb with h | h
      · exact HF.out.2 b h
      · exact .inr (Nat.le_trans HF.out.1.size h)⟩); clear hM2 hl2 hP2 hF2 hF3 HQ1 HM HF hm hw))
  go_ret2
  exact ⟨F2, L2, p2, rfl, HZ.out⟩

set_option maxHeartbeats 1600000 in
theorem cnegativeW (W : World) (F : Nat → Prop) (v : Value) (L : List TM.N) (h : Pw W F v L) (h1 : TM.Row L) (h2 : TM.Once L) (h3 : ∀ x ∈ L, TM.okN x) (hn : L.length < 65530) (a : Nat) (ha : a < L.length) (t : TM.Tr) :
    Calls Try.prog 30 #[.iface 62 v, .int .i64 a] W fun e w' => PoolAt Pw W F v L (TM.mkT 128 (TM.tr L a) t) 2 e w' := by
  have hx0 := TM.nat0_eq ha
  have hmay := h1.2 a ha
  have hmo := TM.may_ok hmay
  have hok := TM.nat0_ok h3 a
  have hnm := TM.nm_row h1 ha
  have hng := TM.ng_row h1 ha
  obtain ⟨x, hx⟩ : ∃ x, L[a] = x := ⟨_, rfl⟩
  rw [hx] at hx0
  rw [hx0] at hmo hok hnm hng
  obtain ⟨xo, xa, xb, xk⟩ := x
  simp only at hmo hok hnm hng
  have HA := hid (pw_has W F v L a h ha xo xa xb xk hx)
  have hm := metPW
  have hm2 := metAW
  have HL := hid (show ∀ w1, Below W.heap.size W w1 → Pw w1 F v L from fun w1 hb => pw_below h hb)
  have HN := hid (fun w1 (hP : Pw w1 F v L) k hk => cnumberW w1 F v L hP h1 h2 h3 (by omega) k hk)
  by_cases c1 : xo = 1
  · subst c1
    rw [if_pos rfl] at hnm
    rw [TM.mkT_neg, hnm]
    simp only
    have hk : TM.W32 xk := hok.2.2.2
    have HR := hid (fun w => creckoned 128 xk 0 (by decide) hk ⟨by omega, by omega⟩ w)
    have hk2 := TM.told_w32 128 xk 0
    clear h h1 h2 h3 hn ha hx0 hmay hmo hok hnm hng hx hk
    go_enter Try.func30, Try.ntmps30
    go_wp2_with (first
      | (go_at_call 65; refine HA.out.mono ?_; clear HA; rintro e w1 ⟨rfl, hb⟩; have HB := stp (hid hb) (al w1 (.cells #[.int .i64 1, .int .i64 xa, .int .i64 xb, .int .u32 xk] 40)); have HNn := hid (NAt.new w1 1 xa xb xk); obtain ⟨q0, q1, q2, q3, qf⟩ := HNn.out.cells; clear hb)
      | (go_at_call 42; refine (HR.out _).mono ?_; clear HR; rintro e w2 ⟨rfl, hb⟩; have HB2 := stp HB hb; clear hb HB q0 q1 q2 q3 qf HNn)
      | (go_at_call 18; refine (HN.out _ (HL.out _ HB2.out) _ hk2).mono ?_; clear HN; rintro e w3 hZ; have HZ := hid (PoolAt.below HB2.out (hZ.mono (show 1 ≤ 2 by omega))); clear hZ; obtain ⟨F', L', p, rfl, hZ⟩ := HZ.out; clear HZ; have HZ := hid hZ; clear hZ HB2 HL hm hm2))
    go_ret2
    exact ⟨F', L', p, rfl, HZ.out⟩
  · rw [if_neg c1] at hnm
    have d1 : (xo == 1) = false := beq_eq_false_iff_ne.2 c1
    by_cases c2 : xo = 384
    · subst c2
      rw [if_pos rfl] at hng
      rw [TM.mkT_neg, hnm, hng]
      simp only
      have hxa : 0 ≤ xa ∧ xa < a := by rcases hmo with h | h | h | h <;> omega
      obtain ⟨a1, rfl⟩ : ∃ a1 : Nat, xa = a1 := ⟨xa.toNat, by omega⟩
      rw [Int.toNat_natCast]
      have HZ := hid (fun w2 (hb : Below W.heap.size W w2) => PoolAt.here (Pl := Pw) (W := W) (pw_below h hb) h1 h2 h3 (show a1 < L.length by omega) rfl 2 hb)
      clear h h1 h2 h3 hn ha hx0 hmay hmo hok hnm hng hx hxa HN HL c1 d1
      go_enter Try.func30, Try.ntmps30
      go_wp2_with (go_at_call 65; refine HA.out.mono ?_; clear HA; rintro e w1 ⟨rfl, hb⟩; have HB := stp (hid hb) (al w1 (.cells #[.int .i64 384, .int .i64 a1, .int .i64 xb, .int .u32 xk] 40)); have HNn := hid (NAt.new w1 384 a1 xb xk); obtain ⟨q0, q1, q2, q3, qf⟩ := HNn.out.cells; clear hb)
      go_ret2
      exact HZ.out _ HB.out
    · rw [if_neg c2] at hng
      have d2 : (xo == 384) = false := beq_eq_false_iff_ne.2 c2
      rw [TM.mkT_neg, hnm, hng]
      simp only
      have HQ := hid (show ∀ w1 : World, Pw w1 F v L → Calls Try.prog 26 #[v, .agg #[.int .i64 384, .int .i64 a, .int .i64 0, .int .u32 0]] w1 fun e w' => PoolAt Pw w1 F v L (.neg (TM.tr L a)) 1 e w' from fun w1 hP => by
        have q := qputW w1 F v L hP h1 h2 h3 (by omega) 384 a 0 0 (TM.ok_ng (by omega)) (TM.may_ng ha)
        rw [TM.trN_neg (x := (384, (a : Int), 0, 0)) rfl] at q
        simp only [Int.toNat_natCast] at q
        exact q)
      clear h h1 h2 h3 hn ha hx0 hmay hmo hok hnm hng hx HN c1 c2
      go_enter Try.func30, Try.ntmps30
      go_wp2_with (first
        | (go_at_call 65; refine HA.out.mono ?_; clear HA; rintro e w1 ⟨rfl, hb⟩; have HB := stp (hid hb) (al w1 (.cells #[.int .i64 xo, .int .i64 xa, .int .i64 xb, .int .u32 xk] 40)); have HNn := hid (NAt.new w1 xo xa xb xk); obtain ⟨q0, q1, q2, q3, qf⟩ := HNn.out.cells; clear hb)
        | (go_at_call 26; refine (HQ.out _ (HL.out _ HB.out)).mono ?_; clear HQ; rintro e w3 hZ; have HZ := hid (PoolAt.below HB.out (hZ.mono (show 1 ≤ 2 by omega))); clear hZ; obtain ⟨F', L', p, rfl, hZ⟩ := HZ.out; clear HZ; have HZ := hid hZ; clear hZ HB HL hm hm2 q0 q1 q2 q3 qf HNn))
      go_ret2
      exact ⟨F', L', p, rfl, HZ.out⟩
end Go.Proofs.Ytapbeffjnpgglab.TB
