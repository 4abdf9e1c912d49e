/-
  What layer 12's statements ask of the program's own functions: premises; rows that have one term's tree alone.
-/
import Derived.Test.YtapbeffjnpgglabS1
import Derived.Test.YtapbeffjnpgglabT3
import Derived.Test.YtapbeffjnpgglabTerPool
namespace Go.Proofs.Ytapbeffjnpgglab.TM
/-- a row that has one term's tree alone, each node once -/
structure Alone (m : List N) (p : Nat) (t : Tr) : Prop where
  row : Row m
  once : Once m
  ok : ∀ x ∈ m, okN x
  lt : p < m.length
  tr : TM.tr m p = t
  all : ∀ i, i < m.length → inT m p i = true
theorem Alone.len {m l : List N} {p q : Nat} {t : Tr} (h : Alone m p t) (g : Alone l q t) : m.length = l.length :=
  Nat.le_antisymm (len_le h.row h.ok h.once g.row h.lt g.lt h.all (by rw [h.tr, g.tr])) (len_le g.row g.ok g.once h.row g.lt h.lt g.all (by rw [h.tr, g.tr]))
theorem Alone.num {m : List N} {p : Nat} {k : Int} (h : Alone m p (.num k)) : m = [(1, 0, 0, k)] ∧ p = 0 := by
  have one : ∀ i, i < m.length → i = p := fun i hi => by
    have := (sub_tr h.row (TM.tr m i) p h.lt).2 ⟨i, hi, h.all i hi, rfl⟩
    rw [h.tr, subT] at this
    exact tr_inj h.row h.ok h.once i p hi h.lt (by rw [this, h.tr])
  have hp : p = 0 := by
    by_cases e : p = 0
    · exact e
    · have := one 0 (by have := h.lt; omega); omega
  have hlen : m.length = 1 := by
    by_cases e : m.length = 1
    · exact e
    · have := h.lt
      have := one 1 (by omega); omega
  subst hp
  refine ⟨?_, rfl⟩
  have hn := nm_row h.row h.lt
  rw [h.tr] at hn
  have hn' : some k = if (nat0 m 0).1 = 1 then some (nat0 m 0).2.2.2 else none := hn
  split at hn'
  · rename_i g
    injection hn' with e
    have hm := may_ok (h.row.2 0 h.lt)
    obtain ⟨y, rfl⟩ := List.length_eq_one_iff.1 hlen
    have hx : nat0 [y] 0 = y := rfl
    rw [hx] at g e hm
    obtain ⟨x0, x1, x2, x3⟩ := y
    simp only at g e hm
    subst g e
    rcases hm with h | h | h | h
    · rw [h.2.1, h.2.2]
    · omega
    · omega
    · have := isA_12 h.1; omega
  · cases hn'
/-- each term is alike to itself, made anew -/
def Norm (l : List N) : Prop := Row l ∧ ∀ i, i < l.length → anewT (tr l i) = tr l i
theorem Alone.norm {m : List N} {p : Nat} {t : Tr} (h : Alone m p (anewT t)) (ht : okT t) : Norm m := by
  refine ⟨h.row, fun i hi => ?_⟩
  have h1 := (sub_tr h.row (TM.tr m i) p h.lt).2 ⟨i, hi, h.all i hi, rfl⟩
  rw [h.tr] at h1
  exact nf_anew _ (nf_sub _ (anew_nf t ht) h1)
end Go.Proofs.Ytapbeffjnpgglab.TM
namespace Go.Proofs.Ytapbeffjnpgglab.TB
open Go.ChangeShapes Go.WideShapes Go.ChangeAt Go.RowKit
open Go.Sort hiding Below
set_option linter.unusedVariables false
set_option maxRecDepth 100000
theorem wfs {x : Int} (h : -9223372036854775808 ≤ x ∧ x ≤ 9223372036854775807) : (Lit.int .i64 x).wf = true :=
  by simp [Lit.wf, IntKind.min, IntKind.max, IntKind.signed, IntKind.bits]; omega

theorem bkeepS {W w' : World} (h : Below W.heap.size W w') : (∀ b o, b < W.heap.size → w'.cell? ⟨b, o, none⟩ = W.cell? ⟨b, o, none⟩) ∧ Below W.heap.size W w' :=
  ⟨fun b o hb => h.cell (p := ⟨b, o, none⟩) hb, h⟩

def Aw12 : Prop := ∀ W, Calls Try.prog 4 #[] W fun e w' => e = .returned (.bool true) ∧ Below W.heap.size W w'
/-- All, of a term that there is -/
def SaOk : Prop := ∀ (A : Option Addr) (n cap : Nat) (L : List TM.N) (i : Nat), L.length = n → n ≤ 4000 → TM.Row L → (∀ x ∈ L, TM.okN x) → i < n → ∀ W, LiesN W A L → Calls Try.prog 13 #[.slice A n cap, .int .i64 i] W fun e w' => ∃ a m c out p, e = .returned (.tuple #[.slice a m c, .int .i64 ((p : Nat) : Int), .int .i64 0]) ∧ out.length = m ∧ m ≤ 4 * n ∧ LiesN w' a out ∧ TM.Alone out p (TM.anewT (TM.tr L i)) ∧ Below W.heap.size W w'
/-- .. of a row that may not be, of a place that there is not -/
def SaForm : Prop := ∀ (A : Option Addr) (n cap : Nat) (L : List TM.N) (i : Int), L.length = n → n ≤ 4000 → TM.rowB L = false → (∀ x ∈ L, TM.okN x) → (Lit.int .i64 i).wf = true → ∀ W, LiesN W A L → Calls Try.prog 13 #[.slice A n cap, .int .i64 i] W fun e w' => ∃ a c, e = .returned (.tuple #[.slice a 0 c, .int .i64 0, .int .i64 3]) ∧ Below W.heap.size W w'
def SaRange : Prop := ∀ (A : Option Addr) (n cap : Nat) (L : List TM.N) (i : Int), L.length = n → n ≤ 4000 → TM.Row L → (∀ x ∈ L, TM.okN x) → (Lit.int .i64 i).wf = true → (i < 0 ∨ (n : Int) ≤ i) → ∀ W, LiesN W A L → Calls Try.prog 13 #[.slice A n cap, .int .i64 i] W fun e w' => ∃ a c, e = .returned (.tuple #[.slice a 0 c, .int .i64 0, .int .i64 2]) ∧ Below W.heap.size W w'
def SnOk : Prop := ∀ (A : Option Addr) (n cap : Nat) (L : List TM.N) (q : Bool), L.length = n → n ≤ 4000 → (∀ x ∈ L, TM.okN x) → (q = true ↔ TM.Norm L) → ∀ W, LiesN W A L → Calls Try.prog 14 #[.slice A n cap] W fun e w' => e = .returned (.bool q) ∧ Below W.heap.size W w'
/-- what is put into a pool by a call -/
def PoolAt (Pl : PoolIs) (W : World) (F : Nat → Prop) (v : Value) (L : List TM.N) (t : TM.Tr) (B : Nat) (e : Ending) (w' : World) : Prop :=
  ∃ F' L' p, e = .returned (.tuple #[.int .i64 ((p : Nat) : Int), .int .i64 0]) ∧ TM.Made L L' t p ∧ L'.length ≤ L.length + B ∧ Pl w' F' v L' ∧ Fr W w' F ∧ (∀ b, F' b → F b ∨ W.heap.size ≤ b)
def SkOk (Pl : PoolIs) : Prop := ∀ (W : World) (F : Nat → Prop) (v : Value) (L : List TM.N) (op : Int) (a b : Nat) (bI : Int), Pl W F v L → TM.Row L → TM.Once L → (∀ x ∈ L, TM.okN x) → L.length ≤ 20000 → TM.isOp op = true → a < L.length → (op ≠ 128 → b < L.length ∧ bI = b) → (Lit.int .i64 bI).wf = true →
  Calls Try.prog 9 #[v, .int .i64 op, .int .i64 a, .int .i64 bI] W fun e w' => PoolAt Pl W F v L (TM.mkT op (TM.tr L a) (TM.tr L b)) (TM.clT op (TM.tr L a) + TM.clT op (TM.tr L b) + 2) e w'
def SkArg (Pl : PoolIs) : Prop := ∀ (W : World) (F : Nat → Prop) (v : Value) (L : List TM.N) (op a b : Int), Pl W F v L → TM.isOp op = false → (Lit.int .i64 op).wf = true → (Lit.int .i64 a).wf = true → (Lit.int .i64 b).wf = true → Calls Try.prog 9 #[v, .int .i64 op, .int .i64 a, .int .i64 b] W fun e w' => e = .returned (.tuple #[.int .i64 0, .int .i64 1]) ∧ Below W.heap.size W w'
def SkRange (Pl : PoolIs) : Prop := ∀ (W : World) (F : Nat → Prop) (v : Value) (L : List TM.N) (op a b : Int), Pl W F v L → (∀ x ∈ L, TM.okN x) → TM.isOp op = true → (Lit.int .i64 a).wf = true → (Lit.int .i64 b).wf = true → ((a < 0 ∨ (L.length : Int) ≤ a) ∨ (op ≠ 128 ∧ (b < 0 ∨ (L.length : Int) ≤ b))) → Calls Try.prog 9 #[v, .int .i64 op, .int .i64 a, .int .i64 b] W fun e w' => e = .returned (.tuple #[.int .i64 0, .int .i64 2]) ∧ Below W.heap.size W w'
/-- a number's place -/
def SbOk (Pl : PoolIs) : Prop := ∀ (W : World) (F : Nat → Prop) (v : Value) (L : List TM.N) (k : Int), Pl W F v L → TM.Row L → TM.Once L → (∀ x ∈ L, TM.okN x) → L.length ≤ 20000 → TM.W32 k → Calls Try.prog 8 #[v, .int .u32 k] W fun e w' => PoolAt Pl W F v L (.num k) 1 e w'
/-- all nodes of a pool, with the room that they lie in -/
def PaOk (Pl : PoolIs) : Prop := ∀ (W : World) (F : Nat → Prop) (v : Value) (L : List TM.N), Pl W F v L → Calls Try.prog 64 #[v] W fun e w' => ∃ a c, e = .returned (.slice a L.length c) ∧ L.length ≤ c ∧ LiesN w' a L ∧ Below W.heap.size W w'
end Go.Proofs.Ytapbeffjnpgglab.TB
