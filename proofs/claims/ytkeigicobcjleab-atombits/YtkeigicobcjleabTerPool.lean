/-
  What a pool must be, and what its methods must answer: the premises of the laws on pools.
-/
import Derived.Test.YtkeigicobcjleabTerLawV
namespace Go.Proofs.Ytkeigicobcjleab.TB
open Go.ChangeShapes Go.WideShapes Go.ChangeAt Go.RowKit
open Go.Sort hiding Below
set_option linter.unusedVariables false
set_option maxRecDepth 100000

/-- of what was there nothing has turned but some blocks -/
structure Fr (W W' : World) (F : Nat → Prop) : Prop where
  os : W'.os = W.os
  tape : W'.tape = W.tape
  output : W'.output = W.output
  size : W.heap.size ≤ W'.heap.size
  block : ∀ b, b < W.heap.size → ¬ F b → W'.heap[b]? = W.heap[b]?
theorem Fr.below {W W' : World} {F : Nat → Prop} {B : Nat} {w : World} (h : Fr W W' F) (hb : Below B w W) (hF : ∀ b, F b → B ≤ b) (hB : B ≤ W.heap.size) : Below B w W' :=
  hb.trans ⟨h.os, h.tape, h.output, h.size, fun k hk => h.block k (Nat.lt_of_lt_of_le hk hB) (fun hf => by have := hF k hf; omega)⟩
theorem Row.fr {W W' : World} {g n : Nat} {V : Nat → Value} {F : Nat → Prop} (h : Row W g n V) (hg : Fr W W' F) (hne : ¬ F g) : Row W' g n V := by
  have e := hg.block g h.lt hne
  exact ⟨Nat.lt_of_lt_of_le h.lt hg.size, fun j hj => by rw [← h.cell j hj]; exact World.cell?_of_block e, fun j hj => by rw [← h.froz j hj]; exact World.frozen?_of_block e⟩
theorem OwnN.fr {W W' : World} {base n cap : Nat} {a : Option Addr} {l : List TM.N} {F : Nat → Prop} (h : OwnN W base a n cap l) (hg : Fr W W' F) (hne : ∀ b, blk a = some b → ¬ F b) : OwnN W' base a n cap l := by
  refine ⟨⟨h.own.1, ?_⟩, h.len⟩
  rcases h.own.2 with h1 | ⟨g, c, cur, h1, h2, h3, h4⟩
  · exact .inl h1
  · have hg' : ¬ F g := by
      injection h1 with h1
      exact hne g (by rw [h1]; rfl)
    exact .inr ⟨g, c, cur, h1, h2, by rw [hg.block g (Array.getElem?_eq_some_iff.1 h3).1 hg']; exact h3, h4⟩
theorem NAt.fr {W W' : World} {b : Nat} {x : TM.N} {F : Nat → Prop} (h : NAt W b x) (hg : Fr W W' F) (hne : ¬ F b) : NAt W' b x := by
  have e := hg.block b h.lt hne
  unfold NAt at *
  rw [e]; exact h

/-- v is a pool that holds L, in the blocks F -/
abbrev PoolIs := World → (Nat → Prop) → Value → List TM.N → Prop
structure PoolOk (Pl : PoolIs) : Prop where
  keep : ∀ (W W' : World) (F : Nat → Prop) (v : Value) (L : List TM.N), Pl W F v L → W.heap.size ≤ W'.heap.size → (∀ b, F b → W'.heap[b]? = W.heap[b]?) → Pl W' F v L
  lt : ∀ (W : World) (F : Nat → Prop) (v : Value) (L : List TM.N), Pl W F v L → ∀ b, F b → b < W.heap.size
  new : ∀ W, Calls Try.prog 14 #[] W fun e w' => ∃ v F, e = .returned v ∧ Pl w' F v [] ∧ Below W.heap.size W w' ∧ (∀ b, F b → W.heap.size ≤ b)
  no : ∀ (W : World) (F : Nat → Prop) (v : Value) (L : List TM.N) (o a b k : Int), TM.okN (o, a, b, k) → Pl W F v L → TM.may (o, a, b, k) L.length = false → Calls Try.prog 24 #[v, .agg #[.int .i64 o, .int .i64 a, .int .i64 b, .int .u32 k]] W fun e w' => e = .returned (.tuple #[.int .i64 0, .int .i64 3]) ∧ Below W.heap.size W w'
  put : ∀ (W : World) (F : Nat → Prop) (v : Value) (L : List TM.N) (o a b k : Int), TM.okN (o, a, b, k) → Pl W F v L → TM.may (o, a, b, k) L.length = true → L.length < 65536 → ∀ L' p, TM.putN L (o, a, b, k) = (L', p) → Calls Try.prog 24 #[v, .agg #[.int .i64 o, .int .i64 a, .int .i64 b, .int .u32 k]] W fun e w' => ∃ F', e = .returned (.tuple #[.int .i64 (p : Int), .int .i64 0]) ∧ Pl w' F' v L' ∧ Fr W w' F ∧ (∀ b, F' b → F b ∨ W.heap.size ≤ b)
  has : ∀ (W : World) (F : Nat → Prop) (v : Value) (L : List TM.N) (i : Nat), Pl W F v L → ∀ (h : i < L.length) (o a b k : Int), L[i] = (o, a, b, k) → Calls Try.prog 17 #[v, .int .i64 i] W fun e w' => e = .returned (.tuple #[.agg #[.int .i64 o, .int .i64 a, .int .i64 b, .int .u32 k], .bool true]) ∧ Below W.heap.size W w'
  none : ∀ (W : World) (F : Nat → Prop) (v : Value) (L : List TM.N) (i : Int), Pl W F v L → (i < 0 ∨ (L.length : Int) ≤ i) → (Lit.int .i64 i).wf = true → Calls Try.prog 17 #[v, .int .i64 i] W fun e w' => e = .returned (.tuple #[.agg #[.int .i64 0, .int .i64 0, .int .i64 0, .int .u32 0], .bool false]) ∧ Below W.heap.size W w'
  all : ∀ (W : World) (F : Nat → Prop) (v : Value) (L : List TM.N), Pl W F v L → Calls Try.prog 10 #[v] W fun e w' => ∃ a c, e = .returned (.slice a L.length c) ∧ LiesN w' a L ∧ Below W.heap.size W w'
theorem PoolOk.below {Pl : PoolIs} (P : PoolOk Pl) {W W' : World} {F : Nat → Prop} {v : Value} {L : List TM.N} (h : Pl W F v L) (hb : Below W.heap.size W W') : Pl W' F v L :=
  P.keep W W' F v L h hb.size (fun b hf => hb.block b (P.lt W F v L h b hf))
theorem PoolOk.off {Pl : PoolIs} (P : PoolOk Pl) {W : World} {F : Nat → Prop} {v : Value} {L : List TM.N} (h : Pl W F v L) (b k : Nat) (u : Value) (hne : ¬ F b) : Pl (W.setCell ⟨b, k, Option.none⟩ u) F v L :=
  P.keep W _ F v L h (by simp) (fun c hc => Below.heap_setCell _ _ _ _ (fun e => by subst e; exact hne hc))
end Go.Proofs.Ytkeigicobcjleab.TB
