/-
  What layer 12's fixed answers come to, as plain mathematics: which node has a tree.
-/
import Derived.Test.YtkeigicobcjleabSimLawP
namespace Go.Proofs.Ytkeigicobcjleab.TM
set_option linter.unusedVariables false
set_option maxRecDepth 100000
theorem node_num {L : List N} (hL : Row L) {i : Nat} (hi : i < L.length) {k : Int} (h : tr L i = .num k) : nat0 L i = (1, 0, 0, k) := by
  have hm := may_ok (hL.2 i hi)
  rw [tr_row hL hi] at h
  generalize nat0 L i = x at *
  obtain ⟨x0, x1, x2, x3⟩ := x
  rcases hm with ⟨h1, h2, h3⟩ | ⟨h1, h2, h3, h4⟩ | ⟨h1, h2⟩ | ⟨h1, h2, h3⟩
  · rw [trN_num h1] at h
    injection h with h
    simp only at h1 h2 h3 h
    rw [h1, h2, h3, h]
  · rw [trN_word h1] at h; cases h
  · rw [trN_neg h1] at h; cases h
  · rw [trN_two h1 h2] at h; cases h
theorem node_op {L : List N} (hL : Row L) (hO : Once L) (ok : ∀ x ∈ L, okN x) {i a : Nat} (hi : i < L.length) (ha : a < L.length) {o k : Int} {s : Tr} (h : tr L i = op2 o s (.num k)) (hs : tr L a = s) :
    ∃ b : Nat, b < L.length ∧ nat0 L i = (o + 256, (a : Int), (b : Int), 0) ∧ nat0 L b = (1, 0, 0, k) := by
  have hm := hL.2 i hi
  have hmo := may_ok hm
  rw [tr_row hL hi] at h
  have hp := fun j (hj : j ∈ parts (nat0 L i)) => parts_lt hm hj
  generalize nat0 L i = x at *
  obtain ⟨x0, x1, x2, x3⟩ := x
  rcases hmo with ⟨h1, h2, h3⟩ | ⟨h1, h2, h3, h4⟩ | ⟨h1, h2⟩ | ⟨h1, h2, h3, h4, h5, h6, h7⟩
  · rw [trN_num h1] at h; cases h
  · rw [trN_word h1] at h; cases h
  · rw [trN_neg h1] at h; cases h
  · rw [trN_two h1 h2] at h
    rw [parts_two h1 h2] at hp
    have e1 := hp x1.toNat (by simp)
    have e2 := hp x2.toNat (by simp)
    injection h with g1 g2
    injection g2 with g2 g3
    simp only at h1 h2 h3 h4 h5 h6 h7 g1 g2 g3
    have ea : x1.toNat = a := tr_inj hL ok hO _ _ (by omega) ha (by rw [g2, hs])
    refine ⟨x2.toNat, by omega, ?_, node_num hL (by omega) g3⟩
    have e3 : x0 = o + 256 := by omega
    have e4 : x1 = (a : Int) := by omega
    have e5 : x2 = ((x2.toNat : Nat) : Int) := by omega
    rw [e3, e4, h3, ← e5]
theorem mk_5 : mkT 0 (.num 5) (.var 0) = op2 0 (.var 0) (.num 5) := by
  rw [mkT_n0 (by decide) rfl rfl, if_pos (by decide)]
  rfl
theorem mk_12 : mkT 0 (op2 0 (.var 0) (.num 5)) (.num 7) = op2 0 (.var 0) (.num 12) := by
  rw [mkT_0n (by decide) rfl rfl]
  rfl
theorem mk_0 : mkT 16 (.var 0) (.var 0) = .num 0 := by
  rw [mkT_00 (by decide) rfl rfl, if_pos ⟨eqT_iff.2 rfl, .inl rfl⟩]
/-- the row of 6 times 6 -/
def z66 : List N := [(1, 0, 0, 6), (288, 0, 0, 0)]
theorem z66_row : Row z66 := by
  rw [← row_iff]; decide
theorem z66_ok : ∀ x ∈ z66, okN x := by unfold z66 okN; decide
theorem z66_tr0 : tr z66 0 = .num 6 := by rfl
theorem z66_tr : tr z66 1 = op2 32 (.num 6) (.num 6) := by rfl
theorem z66_new : anewT (tr z66 1) = .num 36 := by
  rw [z66_tr]
  show mkT 32 (.num 6) (.num 6) = _
  rw [mkT_nn (by decide) rfl rfl]
  rfl
theorem z66_no : ¬ Norm z66 := fun h => by
  have := h.2 1 (by decide)
  rw [z66_new, z66_tr] at this
  cases this
theorem z36_row : Row [((1, 0, 0, 36) : N)] := by rw [← row_iff]; decide
theorem z36 : Norm [((1, 0, 0, 36) : N)] := ⟨z36_row, fun i hi => by
  have : i = 0 := by simpa using hi
  subst this
  rfl⟩
end Go.Proofs.Ytkeigicobcjleab.TM
namespace Go.Proofs.Ytkeigicobcjleab.TB
open Go.ChangeShapes Go.WideShapes Go.ChangeAt Go.RowKit
open Go.Sort hiding Below
set_option linter.unusedVariables false
/-- a word's place; a call of no pool -/
def SwOk (Pl : PoolIs) : Prop := ∀ (W : World) (F : Nat → Prop) (v : Value) (L : List TM.N) (k : Nat), Pl W F v L → TM.Row L → TM.Once L → (∀ x ∈ L, TM.okN x) → L.length ≤ 20000 → k < 16 → Calls Try.prog 15 #[v, .int .i64 k] W fun e w' => PoolAt Pl W F v L (.var k) 1 e w'
/-- a pool under way: what it holds -/
structure PoS (Pl : PoolIs) (base : Nat) (w0 W : World) (F : Nat → Prop) (v : Value) (L : List TM.N) : Prop where
  pl : Pl W F v L
  row : TM.Row L
  once : TM.Once L
  ok : ∀ x ∈ L, TM.okN x
  bl : Below base w0 W
  new : ∀ b, F b → base ≤ b
  bb : base ≤ W.heap.size
theorem PoS.below {Pl : PoolIs} (P : PoolOk Pl) {base : Nat} {w0 W W' : World} {F : Nat → Prop} {v : Value} {L : List TM.N} (h : PoS Pl base w0 W F v L) (hb : Below W.heap.size W W') : PoS Pl base w0 W' F v L :=
  ⟨P.below h.pl hb, h.row, h.once, h.ok, h.bl.trans (hb.mono h.bb), h.new, Nat.le_trans h.bb hb.size⟩
theorem PoS.made {Pl : PoolIs} {base : Nat} {w0 W W' : World} {F F' : Nat → Prop} {v : Value} {L L' : List TM.N} {t : TM.Tr} {p : Nat} (h : PoS Pl base w0 W F v L) (hM : TM.Made L L' t p) (hP : Pl W' F' v L') (hF : Fr W W' F) (hn : ∀ b, F' b → F b ∨ W.heap.size ≤ b) : PoS Pl base w0 W' F' v L' :=
  ⟨hP, hM.row, hM.once, hM.ok, hF.below h.bl h.new h.bb, fun b hb => by
    rcases hn b hb with e | e
    · exact h.new b e
    · have := h.bb; omega, Nat.le_trans h.bb hF.size⟩
end Go.Proofs.Ytkeigicobcjleab.TB
