/-
  The program's small functions of layer 12: reckoned, turns, leaves, swallows, hasA, hasB, moved, as walks over the Go text.
-/
import Derived.Test.YtkeigicobcjleabTC1
import Derived.Test.YtkeigicobcjleabS1
import Derived.Test.YtkeigicobcjleabTC2
import Derived.Test.YtkeigicobcjleabSimLawP
import Derived.Test.YtkeigicobcjleabSimAwk
namespace Go.Proofs.Ytkeigicobcjleab.TM
set_option linter.unusedVariables false
theorem told_val {op : Int} (h : isOp op = true) (a b : Int) : told op a b = WM.val op a b := by
  by_cases e : op = 48
  · subst e
    unfold told
    by_cases hb : b = 0
    · subst hb; rw [if_neg (by decide), WM.v_div, if_pos rfl]
    · rw [if_pos (by unfold WM.ok; simp [hb])]
  · exact told_on e h a b
theorem isOp_has {op : Int} (h : isA op = true) : decide (256 ≤ op) = true := decide_eq_true (by have := isA_12 h; omega)
end Go.Proofs.Ytkeigicobcjleab.TM
namespace Go.Proofs.Ytkeigicobcjleab.TB
open Go.ChangeShapes Go.WideShapes Go.ChangeAt Go.RowKit
open Go.Sort hiding Below
set_option linter.unusedVariables false
set_option maxRecDepth 100000

end Go.Proofs.Ytkeigicobcjleab.TB
namespace Go.Proofs.Ytkeigicobcjleab.TM
set_option linter.unusedVariables false
/-- rules 1 and 3: a number on the right -/
def ofN (op : Int) (t : Tr) (k : Int) : Tr := match nmT t with
  | some i => .num (told op i k)
  | none => rgtT op t k
theorem ofN_num {op : Int} {t : Tr} {i : Int} (h : nmT t = some i) (k : Int) : ofN op t k = .num (told op i k) := by unfold ofN; rw [h]
theorem ofN_none {op : Int} {t : Tr} (h : nmT t = none) (k : Int) : ofN op t k = rgtT op t k := by unfold ofN; rw [h]
theorem ofN_sh (op : Int) (t : Tr) (k : Int) : ofN op t (shK op k) = ofN op t k := by
  cases h : nmT t with
  | some i => rw [ofN_num h, ofN_num h, told_shK]
  | none => rw [ofN_none h, ofN_none h, rgtT_eq, rgtT_eq, shK_twice]
theorem ofN_idle {op : Int} {t : Tr} {k : Int} (h : nmT t = none) (hk : shK op k = k) (h1 : idleB op k = true) : ofN op t k = t := by
  rw [ofN_none h, rgtT_eq, hk, if_pos h1]
theorem ofN_zero {op : Int} {t : Tr} {k : Int} (h : nmT t = none) (hk : shK op k = k) (h1 : idleB op k = false) (h2 : (zeroB op k || fullB op k) = true) : ofN op t k = .num k := by
  rw [ofN_none h, rgtT_eq, hk, if_neg (by rw [h1]; decide)]
  cases h3 : zeroB op k with
  | true =>
    rw [if_pos rfl]
    unfold zeroB at h3
    simp only [Bool.and_eq_true, beq_iff_eq] at h3
    rw [h3.1]
  | false =>
    rw [h3, Bool.false_or] at h2
    rw [if_neg (by decide), if_pos h2]
    unfold fullB at h2
    simp only [Bool.and_eq_true, beq_iff_eq] at h2
    rw [h2.1]
theorem zf_no {op k : Int} (h2 : (zeroB op k || fullB op k) = false) : ¬ zeroB op k = true ∧ ¬ fullB op k = true := by
  rw [Bool.or_eq_false_iff] at h2
  rw [h2.1, h2.2]; decide
theorem ofN_op {op : Int} {t : Tr} {k : Int} (h : nmT t = none) (hk : shK op k = k) (h1 : idleB op k = false) (h2 : (zeroB op k || fullB op k) = false) (h3 : chn op t = none) : ofN op t k = op2 op t (.num k) := by
  rw [ofN_none h, rgtT_eq, hk, if_neg (by rw [h1]; decide), if_neg (zf_no h2).1, if_neg (zf_no h2).2, h3]
theorem ofN_on {op : Int} {t x : Tr} {k j : Int} (h : nmT t = none) (hk : shK op k = k) (h1 : idleB op k = false) (h2 : (zeroB op k || fullB op k) = false) (h3 : chn op t = some (x, j)) : ofN op t k = ofN op x (told op j k) := by
  rw [ofN_none h, rgtT_eq, hk, if_neg (by rw [h1]; decide), if_neg (zf_no h2).1, if_neg (zf_no h2).2, h3]
  rfl
theorem may_op2 {op : Int} {a p n : Nat} (h : isOp op = true) (h2 : op ≠ 128) (ha : a < n) (hp : p < n) : may (256 + op, (a : Int), (p : Int), 0) n = true := by
  have h256 : isA (256 + op) = true := by rw [Int.add_comm]; exact h
  rw [may_two (x := (256 + op, (a : Int), (p : Int), 0)) h256 (by show 256 + op ≠ 384; omega)]
  simp [ha, hp]
theorem may_ng {a n : Nat} (ha : a < n) : may (384, (a : Int), 0, 0) n = true := by
  rw [may_neg (x := (384, (a : Int), 0, 0)) rfl]
  simp [ha]
theorem tr_op2 {op : Int} {a p : Nat} (h : isOp op = true) (h2 : op ≠ 128) (f : Nat → Tr) : trN (256 + op, (a : Int), (p : Int), 0) f = op2 op (f a) (f p) := by
  have h256 : isA (256 + op) = true := by rw [Int.add_comm]; exact h
  rw [trN_two (x := (256 + op, (a : Int), (p : Int), 0)) h256 (by show 256 + op ≠ 384; omega)]
  show op2 (256 + op - 256) _ _ = _
  rw [show 256 + op - 256 = op by omega]; rfl
theorem ok_op2 {op : Int} {a p : Nat} (h : isOp op = true) (ha : a < 65536) (hp : p < 65536) : okN (256 + op, (a : Int), (p : Int), 0) := by
  have := isOp_iff.1 h
  unfold okN; dsimp only; omega
theorem ok_ng {a : Nat} (ha : a < 65536) : okN (384, (a : Int), 0, 0) := by unfold okN; dsimp only; omega
theorem trn_sh {op : Int} (h : trn op = true) (k : Int) : shK op k = k := by
  have := trn_iff.1 h
  unfold shK; rw [if_neg (by omega)]
end Go.Proofs.Ytkeigicobcjleab.TM
namespace Go.Proofs.Ytkeigicobcjleab.TB
open Go.ChangeShapes Go.WideShapes Go.ChangeAt Go.RowKit
open Go.Sort hiding Below
set_option linter.unusedVariables false
set_option maxRecDepth 100000
theorem Fr.comp {W W1 W2 : World} {F F1 : Nat → Prop} (h : Fr W W1 F) (h1 : Fr W1 W2 F1) (hF : ∀ b, F1 b → F b ∨ W.heap.size ≤ b) : Fr W W2 F :=
  ⟨h1.os.trans h.os, h1.tape.trans h.tape, h1.output.trans h.output, Nat.le_trans h.size h1.size, fun b hb hn => by
    rw [h1.block b (Nat.lt_of_lt_of_le hb h.size) (fun hf => by
      rcases hF b hf with e | e
      · exact hn e
      · omega)]
    exact h.block b hb hn⟩
theorem ok_isOp (op : Int) : WM.ok op 1 = TM.isOp op := by
  rw [Bool.eq_iff_iff, TM.isOp_iff]
  unfold WM.ok
  simp only [Bool.or_eq_true, beq_iff_eq, Bool.and_eq_true, bne_iff_ne]
  omega
theorem PoolAt.mono {Pl : PoolIs} {W : World} {F : Nat → Prop} {v : Value} {L : List TM.N} {t : TM.Tr} {B B2 : Nat} {e : Ending} {w' : World} (h : PoolAt Pl W F v L t B e w') (hB : B ≤ B2) : PoolAt Pl W F v L t B2 e w' := by
  obtain ⟨F', L', p, h1, h2, h3, h4⟩ := h
  exact ⟨F', L', p, h1, h2, by omega, h4⟩
theorem PoolAt.below {Pl : PoolIs} {W W1 : World} {F : Nat → Prop} {v : Value} {L : List TM.N} {t : TM.Tr} {B : Nat} {e : Ending} {w' : World} (hb : Below W.heap.size W W1) (h : PoolAt Pl W1 F v L t B e w') : PoolAt Pl W F v L t B e w' := by
  obtain ⟨F', L', p, h1, h2, h3, h4, h5, h6⟩ := h
  exact ⟨F', L', p, h1, h2, h3, h4, (Fr.of_below hb).comp h5 (fun b h => .inl h), fun b hb' => by
    rcases h6 b hb' with h | h
    · exact .inl h
    · exact .inr (Nat.le_trans hb.size h)⟩
theorem PoolAt.after {Pl : PoolIs} {W W' : World} {F : Nat → Prop} {v : Value} {L : List TM.N} {t : TM.Tr} {B : Nat} {e : Ending} {w' : World} (h : PoolAt Pl W F v L t B e w') (hk : ∀ (F' : Nat → Prop) L', Pl w' F' v L' → Pl W' F' v L') (hb : Below w'.heap.size w' W') : PoolAt Pl W F v L t B e W' := by
  obtain ⟨F', L', p, h1, h2, h3, h4, h5, h6⟩ := h
  exact ⟨F', L', p, h1, h2, h3, hk _ _ h4, h5.below2 hb, h6⟩
/-- what is there already -/
theorem PoolAt.here {Pl : PoolIs} {W W1 : World} {F : Nat → Prop} {v : Value} {L : List TM.N} (h : Pl W1 F v L) (h1 : TM.Row L) (h2 : TM.Once L) (h3 : ∀ x ∈ L, TM.okN x) {p : Nat} (hp : p < L.length) {t : TM.Tr} (ht : TM.tr L p = t) (B : Nat) (hb : Below W.heap.size W W1) : PoolAt Pl W F v L t B (.returned (.tuple #[.int .i64 ((p : Nat) : Int), .int .i64 0])) W1 :=
  ⟨F, L, p, rfl, by rw [← ht]; exact TM.Made.here h1 h2 h3 hp, by omega, h, Fr.of_below hb, fun b h => .inl h⟩
theorem bdrewB {B : Nat} {W W' : World} (h : Below B W W') : Below B W W'.drew := h.trans (Below.refl _ _).drew
end Go.Proofs.Ytkeigicobcjleab.TB
namespace Go.Proofs.Ytkeigicobcjleab.TB
open Go.ChangeShapes Go.WideShapes Go.ChangeAt Go.RowKit
open Go.Sort hiding Below
set_option linter.unusedVariables false
set_option maxRecDepth 100000

theorem metPP (v : Value) (w : World) : (method 220 40 v "Put").run Try.prog w = .ok (24, v) w := by kernel_rfl
theorem metAP (v : Value) (w : World) : (method 220 40 v "At").run Try.prog w = .ok (17, v) w := by kernel_rfl
theorem qputP (W : World) (F : Nat → Prop) (v : Value) (L : List TM.N) (h : Pl W F v L) (h1 : TM.Row L) (h2 : TM.Once L) (h3 : ∀ x ∈ L, TM.okN x) (hn : L.length < 65536) (o a b k : Int) (ok : TM.okN (o, a, b, k)) (hm : TM.may (o, a, b, k) L.length = true) :
    Calls Try.prog 24 #[v, .agg #[.int .i64 o, .int .i64 a, .int .i64 b, .int .u32 k]] W fun e w' => PoolAt Pl W F v L (TM.trN (o, a, b, k) (TM.tr L)) 1 e w' := by
  obtain ⟨⟨L', p⟩, hp⟩ : ∃ q, TM.putN L (o, a, b, k) = q := ⟨_, rfl⟩
  have hM := TM.Made.put h1 h2 h3 hn ok hm hp
  have hl := (TM.putN_len L (o, a, b, k)).2
  rw [hp] at hl
  refine (pl_put W F v L o a b k ok h hm hn L' p hp).mono ?_
  rintro e w' ⟨F', rfl, g1, g2, g3⟩
  exact ⟨F', L', p, rfl, hM, hl, g1, g2, g3⟩

set_option maxHeartbeats 1600000 in
theorem cnumberP (W : World) (F : Nat → Prop) (v : Value) (L : List TM.N) (h : Pl W F v L) (h1 : TM.Row L) (h2 : TM.Once L) (h3 : ∀ x ∈ L, TM.okN x) (hn : L.length < 65536) (k : Int) (hk : TM.W32 k) :
    Calls Try.prog 31 #[.iface 40 v, .int .u32 k] W fun e w' => PoolAt Pl W F v L (.num k) 1 e w' := by
  have HP := hid (qputP W F v L h h1 h2 h3 hn 1 0 0 k (TM.ok_number hk) (TM.may_number k _))
  have hm := metPP
  clear h h1 h2 h3 hn hk
  go_enter Try.func31, Try.ntmps31
  go_wp2_with (go_at_call 24; refine HP.out.mono ?_; rintro e w1 ⟨F', L', p, rfl, hZ⟩; have HZ := hid hZ; clear hZ HP hm)
  go_ret2
  exact ⟨F', L', p, rfl, HZ.out⟩

theorem binOp_add_opP {op : Int} (ho : TM.isOp op = true) : IntKind.i64.wrap (256 + op) = 256 + op := Go.IntWalk.i64_in _ (by have := TM.isOp_iff.1 ho; omega)

end Go.Proofs.Ytkeigicobcjleab.TB
namespace Go.Proofs.Ytkeigicobcjleab.TB
open Go.ChangeShapes Go.WideShapes Go.ChangeAt Go.RowKit
open Go.Sort hiding Below
set_option linter.unusedVariables false
set_option maxRecDepth 100000

theorem pl_ptr {W : World} {F : Nat → Prop} {v : Value} {L : List TM.N} (h : Pl W F v L) : ∃ pb, v = .pointer (some ⟨pb, 0, none⟩) := by
  obtain ⟨b, a, c, mo, hv, _, _⟩ := h
  exact ⟨b, hv⟩
/-- At, wherever -/
theorem pl_at (L : List TM.N) (i : Int) (hw : (Lit.int .i64 i).wf = true) : ∃ (o a b k : Int) (q : Bool), (q = true ↔ 0 ≤ i ∧ i < (L.length : Int)) ∧ ∀ (W : World) (F : Nat → Prop) (v : Value), Pl W F v L →
    Calls Try.prog 17 #[v, .int .i64 i] W fun e w' => e = .returned (.tuple #[.agg #[.int .i64 o, .int .i64 a, .int .i64 b, .int .u32 k], .bool q]) ∧ Below W.heap.size W w' := by
  by_cases h : 0 ≤ i ∧ i < (L.length : Int)
  · obtain ⟨n, rfl⟩ : ∃ n : Nat, i = n := ⟨i.toNat, by omega⟩
    have hn : n < L.length := by omega
    refine ⟨L[n].1, L[n].2.1, L[n].2.2.1, L[n].2.2.2, true, ⟨fun _ => h, fun _ => rfl⟩, fun W F v hP => ?_⟩
    exact pl_has W F v L n hP hn _ _ _ _ rfl
  · refine ⟨0, 0, 0, 0, false, ⟨fun e => (by cases e), fun e => absurd e h⟩, fun W F v hP => ?_⟩
    exact pl_none W F v L i hP (by omega) hw

/-- Make, where both places are there (of the other sign: the first one) -/
theorem sk_go_c (q : Bool) (op : Int) (h : q = true ∨ op = 128) : (if (!q) = true then (op != 128) else false) = false := by
  rcases h with rfl | rfl
  · rfl
  · cases q <;> rfl
set_option maxHeartbeats 3200000 in
theorem sb_ok : SbOk Pl := by
  intro W F v L k hP h1 h2 h3 hn hk
  have HN := hid (cnumberP W F v L hP h1 h2 h3 (by omega) k hk)
  clear hP h1 h2 h3 hn hk
  go_enter Try.func16, Try.ntmps16
  go_wp2_with (go_at_call 31; refine HN.out.mono ?_; rintro e w1 ⟨F9, L9, p9, rfl, hZ⟩; have HZ := hid hZ; clear hZ HN)
  go_ret2
  exact ⟨F9, L9, p9, rfl, HZ.out⟩
set_option maxHeartbeats 3200000 in
theorem sw_ok : SwOk Pl := by
  intro W F v L k hP h1 h2 h3 hn hk
  obtain ⟨pb, rfl⟩ := pl_ptr hP
  have hm : TM.may (2, 0, 0, (k : Int)) L.length = true := by
    rw [TM.may_word (x := (2, 0, 0, (k : Int))) rfl]
    have e : decide (((2, 0, 0, (k : Int)) : TM.N).2.2.2 ≤ 15) = true := decide_eq_true (by show (k : Int) ≤ 15; omega)
    rw [e]; rfl
  have hq := qputP W F _ L hP h1 h2 h3 (by omega) 2 0 0 k (by unfold TM.okN; dsimp only; omega) hm
  rw [TM.trN_word (x := (2, 0, 0, (k : Int))) rfl] at hq
  simp only [Int.toNat_natCast] at hq
  have HN := hid hq
  have e1 : IntKind.u32.wrap (k : Int) = (k : Int) := Go.IntWalk.u32_in _ (by omega)
  have d1 : decide ((k : Int) < 0) = false := decide_eq_false (by omega)
  have d2 : decide (16 ≤ (k : Int)) = false := decide_eq_false (by omega)
  clear hP h1 h2 h3 hn hk hm hq
  go_enter Try.func15, Try.ntmps15
  go_wp2_with (go_at_call 24; refine HN.out.mono ?_; rintro e w1 ⟨F9, L9, p9, rfl, hZ⟩; have HZ := hid hZ; clear hZ HN)
  go_ret2
  exact ⟨F9, L9, p9, rfl, HZ.out⟩
end Go.Proofs.Ytkeigicobcjleab.TB
