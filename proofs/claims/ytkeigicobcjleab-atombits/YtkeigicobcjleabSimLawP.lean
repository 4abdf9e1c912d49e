/-
  What layer 12's statements ask of the program's own functions: premises; rows that have one term's tree alone.
-/
import Derived.Test.YtkeigicobcjleabS1
import Derived.Test.YtkeigicobcjleabT3
import Derived.Test.YtkeigicobcjleabTerPool
namespace Go.Proofs.Ytkeigicobcjleab.TM
/-- a row that has one term's tree alone, each node once -/
structure Alone (m : List N) (p : Nat) (t : Tr) : Prop where
  row : Row m
  once : Once m
  ok : ∀ x ∈ m, okN x
  lt : p < m.length
  tr : TM.tr m p = t
  all : ∀ i, i < m.length → inT m p i = true
theorem Alone.len {m l : List N} {p q : Nat} {t : Tr} (h : Alone m p t) (g : Alone l q t) : m.length = l.length :=
  Nat.le_antisymm (len_le h.row h.ok h.once g.row h.lt g.lt h.all (by rw [h.tr, g.tr])) (len_le g.row g.ok g.once h.row g.lt h.lt g.all (by rw [h.tr, g.tr]))
theorem Alone.num {m : List N} {p : Nat} {k : Int} (h : Alone m p (.num k)) : m = [(1, 0, 0, k)] ∧ p = 0 := by
  have one : ∀ i, i < m.length → i = p := fun i hi => by
    have := (sub_tr h.row (TM.tr m i) p h.lt).2 ⟨i, hi, h.all i hi, rfl⟩
    rw [h.tr, subT] at this
    exact tr_inj h.row h.ok h.once i p hi h.lt (by rw [this, h.tr])
  have hp : p = 0 := by
    by_cases e : p = 0
    · exact e
    · have := one 0 (by have := h.lt; omega); omega
  have hlen : m.length = 1 := by
    by_cases e : m.length = 1
    · exact e
    · have := h.lt
      have := one 1 (by omega); omega
  subst hp
  refine ⟨?_, rfl⟩
  have hn := nm_row h.row h.lt
  rw [h.tr] at hn
  have hn' : some k = if (nat0 m 0).1 = 1 then some (nat0 m 0).2.2.2 else none := hn
  split at hn'
  · rename_i g
    injection hn' with e
    have hm := may_ok (h.row.2 0 h.lt)
    obtain ⟨y, rfl⟩ := List.length_eq_one_iff.1 hlen
    have hx : nat0 [y] 0 = y := rfl
    rw [hx] at g e hm
    obtain ⟨x0, x1, x2, x3⟩ := y
    simp only at g e hm
    subst g e
    rcases hm with h | h | h | h
    · rw [h.2.1, h.2.2]
    · omega
    · omega
    · have := isA_12 h.1; omega
  · cases hn'
/-- each term is alike to itself, made anew -/
def Norm (l : List N) : Prop := Row l ∧ ∀ i, i < l.length → anewT (tr l i) = tr l i
theorem Alone.norm {m : List N} {p : Nat} {t : Tr} (h : Alone m p (anewT t)) (ht : okT t) : Norm m := by
  refine ⟨h.row, fun i hi => ?_⟩
  have h1 := (sub_tr h.row (TM.tr m i) p h.lt).2 ⟨i, hi, h.all i hi, rfl⟩
  rw [h.tr] at h1
  exact nf_anew _ (nf_sub _ (anew_nf t ht) h1)
end Go.Proofs.Ytkeigicobcjleab.TM
namespace Go.Proofs.Ytkeigicobcjleab.TB
open Go.ChangeShapes Go.WideShapes Go.ChangeAt Go.RowKit
open Go.Sort hiding Below
set_option linter.unusedVariables false
set_option maxRecDepth 100000
theorem wfs {x : Int} (h : -9223372036854775808 ≤ x ∧ x ≤ 9223372036854775807) : (Lit.int .i64 x).wf = true :=
  by simp [Lit.wf, IntKind.min, IntKind.max, IntKind.signed, IntKind.bits]; omega

theorem bkeepS {W w' : World} (h : Below W.heap.size W w') : (∀ b o, b < W.heap.size → w'.cell? ⟨b, o, none⟩ = W.cell? ⟨b, o, none⟩) ∧ Below W.heap.size W w' :=
  ⟨fun b o hb => h.cell (p := ⟨b, o, none⟩) hb, h⟩

/-- what is put into a pool by a call -/
def PoolAt (Pl : PoolIs) (W : World) (F : Nat → Prop) (v : Value) (L : List TM.N) (t : TM.Tr) (B : Nat) (e : Ending) (w' : World) : Prop :=
  ∃ F' L' p, e = .returned (.tuple #[.int .i64 ((p : Nat) : Int), .int .i64 0]) ∧ TM.Made L L' t p ∧ L'.length ≤ L.length + B ∧ Pl w' F' v L' ∧ Fr W w' F ∧ (∀ b, F' b → F b ∨ W.heap.size ≤ b)
/-- a number's place -/
def SbOk (Pl : PoolIs) : Prop := ∀ (W : World) (F : Nat → Prop) (v : Value) (L : List TM.N) (k : Int), Pl W F v L → TM.Row L → TM.Once L → (∀ x ∈ L, TM.okN x) → L.length ≤ 20000 → TM.W32 k → Calls Try.prog 16 #[v, .int .u32 k] W fun e w' => PoolAt Pl W F v L (.num k) 1 e w'
/-- all nodes of a pool, with the room that they lie in -/
def PaOk (Pl : PoolIs) : Prop := ∀ (W : World) (F : Nat → Prop) (v : Value) (L : List TM.N), Pl W F v L → Calls Try.prog 10 #[v] W fun e w' => ∃ a c, e = .returned (.slice a L.length c) ∧ L.length ≤ c ∧ LiesN w' a L ∧ Below W.heap.size W w'
end Go.Proofs.Ytkeigicobcjleab.TB
