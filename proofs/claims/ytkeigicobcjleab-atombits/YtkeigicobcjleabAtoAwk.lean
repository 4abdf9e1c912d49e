/-
  What layer 13's fixed answers come to, as plain mathematics; a pool under way and an atom of it.
-/
import Derived.Test.YtkeigicobcjleabSimAwk
import Derived.Test.YtkeigicobcjleabAtoLawP
namespace Go.Proofs.Ytkeigicobcjleab.TM
set_option linter.unusedVariables false
set_option maxRecDepth 100000
theorem mkA_5 : mkA 32 (.num 5) (.var 1) false = opA 32 (.var 1) (.num 4) true := by rfl
theorem mkA_0 : mkA 48 (.var 1) (.num 0) true = (3, 0, .num 0, .num 0, false) := by rfl
def z15 : List N := [(2, 0, 0, 1), (1, 0, 0, 5)]
theorem z15_row : Row z15 := by
  rw [← row_iff]; decide
theorem z15_ok : ∀ x ∈ z15, okN x := by unfold z15 okN; decide
/-- the record whose word 1 is 5 -/
def r15 : List Int := [0, 5, 0, 0, 0, 0, 0, 0, 0, 0, 0, 0, 0, 0, 0, 0]
theorem r15_ok : R.okR r15 := by
  refine ⟨rfl, fun i => ?_⟩
  match i with
  | 0 => decide
  | 1 => decide
  | 2 => decide
  | 3 => decide
  | 4 => decide
  | 5 => decide
  | 6 => decide
  | 7 => decide
  | 8 => decide
  | 9 => decide
  | 10 => decide
  | 11 => decide
  | 12 => decide
  | 13 => decide
  | 14 => decide
  | 15 => decide
  | n + 16 => have : r15.getD (n + 16) 0 = 0 := by rfl
              omega
theorem z15_ask : (WM.ask 16 (TM.val z15 r15 0) (TM.val z15 r15 1) != false) = true := by decide
theorem z15_chk : chkA z15 16 0 2 = 2 := by decide
theorem z15_num {L : List N} (hL : Row L) {i : Nat} (hi : i < L.length) {k : Int} (h : tr L i = .num k) : L[i] = (1, 0, 0, k) := by
  rw [← nat0_eq hi]; exact node_num hL hi h
end Go.Proofs.Ytkeigicobcjleab.TM
namespace Go.Proofs.Ytkeigicobcjleab.TB
open Go.ChangeShapes Go.WideShapes Go.ChangeAt Go.RowKit
open Go.Sort hiding Below
set_option linter.unusedVariables false
set_option maxRecDepth 100000
theorem ly_lit15 (w : World) : LyN (w.alloc (.cells #[.int .i64 2, .int .i64 0, .int .i64 0, .int .u32 1, .int .i64 1, .int .i64 0, .int .i64 0, .int .u32 5] 28)) w.heap.size 0 TM.z15 :=
  ly_of_own (n := 2) (cap := 2) (World.ownsRow_lit (base := w.heap.size) (e := 28) (size := 4) w (n4s TM.z15).toArray 2 (Nat.le_refl _) (by unfold maxLen; omega) (by simp [n4s_len, TM.z15])) rfl
theorem fldA3 (o a b : Int) (k : Bool) (W : World) : (Instr.field 31 (.agg #[.int .i64 o, .int .i64 a, .int .i64 b, .bool k]) 3).run Try.prog W = .ok (.bool k) W := by
  simp [Instr.field, part, asAgg, go_sem]
theorem AAt.frS {W W' : World} {b : Nat} {o p q : Int} {n : Bool} {F : Nat → Prop} (h : AAt W b o p q n) (hg : Fr W W' F) (hne : ¬ F b) : AAt W' b o p q n := h.of_block (hg.block b h.lt hne)
theorem PoS.takeN {Pl : PoolIs} {base : Nat} {w0 W w' : World} {F : Nat → Prop} {v : Value} {L : List TM.N} {t : TM.Tr} {B : Nat} {e : Ending} (h : PoS Pl base w0 W F v L) (hA : PoolAt Pl W F v L t B e w') :
    ∃ F' L' p, e = .returned (.tuple #[.int .i64 ((p : Nat) : Int), .int .i64 0]) ∧ PoS Pl base w0 w' F' v L' ∧ L'.length ≤ L.length + B ∧ p < L'.length ∧ TM.tr L' p = t ∧ (∀ i, i < L.length → i < L'.length ∧ TM.tr L' i = TM.tr L i) ∧ Fr W w' F := by
  obtain ⟨F', L', p, h1, h2, h3, h4, h5, h6⟩ := hA
  exact ⟨F', L', p, h1, h.made h2 h4 h5 h6, h3, h2.lt, h2.tr, fun i hi => ⟨Nat.lt_of_lt_of_le hi h2.len, (h2.keep hi).2⟩, h5⟩
theorem PoS.takeA {Pl : PoolIs} {base : Nat} {w0 W w' : World} {F : Nat → Prop} {v : Value} {L : List TM.N} {a : TM.At} {B : Nat} {e : Ending} (h : PoS Pl base w0 W F v L) (hA : AtomAt Pl W F v L a B e w') :
    ∃ F' L' o p q n, e = .returned (.tuple #[.agg #[.int .i64 o, .int .i64 ((p : Nat) : Int), .int .i64 ((q : Nat) : Int), .bool n], .int .i64 ((a.1 : Nat) : Int), .int .i64 0]) ∧ PoS Pl base w0 w' F' v L' ∧ L'.length ≤ L.length + B ∧ (∀ i, i < L.length → i < L'.length ∧ TM.tr L' i = TM.tr L i) ∧ Fr W w' F ∧ TM.MadeA L L' a o p q n := by
  obtain ⟨F', L', o, p, q, n, h1, h2, h3, h4, h5, h6⟩ := hA
  refine ⟨F', L', o, p, q, n, h1, ⟨h4, h2.row, h2.once, h2.ok, h5.below h.bl h.new h.bb, fun b hb => ?_, Nat.le_trans h.bb h5.size⟩, h3, fun i hi => ⟨Nat.lt_of_lt_of_le hi h2.len, (h2.keep hi).2⟩, h5, h2⟩
  rcases h6 b hb with e | e
  · exact h.new b e
  · have := h.bb; omega
end Go.Proofs.Ytkeigicobcjleab.TB
