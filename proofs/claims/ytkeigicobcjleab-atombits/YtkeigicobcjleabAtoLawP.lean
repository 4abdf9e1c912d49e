/-
  What layer 13's statements ask of the program's own functions: premises.
-/
import Derived.Test.YtkeigicobcjleabAtoRefA
import Derived.Test.YtkeigicobcjleabAtoRefF
namespace Go.Proofs.Ytkeigicobcjleab.TB
open Go.ChangeShapes Go.WideShapes Go.ChangeAt Go.RowKit
open Go.Sort hiding Below
set_option linter.unusedVariables false
set_option maxRecDepth 100000
/-- an atom, as a value -/
abbrev atV (o a b : Int) (n : Bool) : Value := .agg #[.int .i64 o, .int .i64 a, .int .i64 b, .bool n]
/-- an atom that a call makes of a pool -/
def AtomAt (Pl : PoolIs) (W : World) (F : Nat → Prop) (v : Value) (L : List TM.N) (a : TM.At) (B : Nat) (e : Ending) (w' : World) : Prop :=
  ∃ F' L' o p q n, e = .returned (.tuple #[.agg #[.int .i64 o, .int .i64 ((p : Nat) : Int), .int .i64 ((q : Nat) : Int), .bool n], .int .i64 ((a.1 : Nat) : Int), .int .i64 0]) ∧ TM.MadeA L L' a o p q n ∧ L'.length ≤ L.length + B ∧ Pl w' F' v L' ∧ Fr W w' F ∧ (∀ b, F' b → F b ∨ W.heap.size ≤ b)
def KmOk (Pl : PoolIs) : Prop := ∀ (W : World) (F : Nat → Prop) (v : Value) (L : List TM.N) (op : Int) (a b : Nat) (nt : Bool), Pl W F v L → TM.Row L → TM.Once L → (∀ x ∈ L, TM.okN x) → L.length ≤ 20000 → TM.isQ op = true → a < L.length → b < L.length →
  Calls Try.prog 9 #[v, .int .i64 op, .int .i64 a, .int .i64 b, .bool nt] W fun e w' => AtomAt Pl W F v L (TM.mkA op (TM.tr L a) (TM.tr L b) nt) (L.length + 8) e w'
/-- Make's errors: of no op of the four, of a place that is not there, of no pool -/
def KmArg (Pl : PoolIs) : Prop := ∀ (W : World) (F : Nat → Prop) (v : Value) (L : List TM.N) (op a b : Int) (nt : Bool), Pl W F v L → TM.isQ op = false → (Lit.int .i64 op).wf = true → (Lit.int .i64 a).wf = true → (Lit.int .i64 b).wf = true →
  Calls Try.prog 9 #[v, .int .i64 op, .int .i64 a, .int .i64 b, .bool nt] W fun e w' => e = .returned (.tuple #[.agg #[.int .i64 0, .int .i64 0, .int .i64 0, .bool false], .int .i64 0, .int .i64 1]) ∧ Below W.heap.size W w'
def KmRange (Pl : PoolIs) : Prop := ∀ (W : World) (F : Nat → Prop) (v : Value) (L : List TM.N) (op a b : Int) (nt : Bool), Pl W F v L → (∀ x ∈ L, TM.okN x) → TM.isQ op = true → (Lit.int .i64 a).wf = true → (Lit.int .i64 b).wf = true → (a < 0 ∨ (L.length : Int) ≤ a ∨ b < 0 ∨ (L.length : Int) ≤ b) →
  Calls Try.prog 9 #[v, .int .i64 op, .int .i64 a, .int .i64 b, .bool nt] W fun e w' => e = .returned (.tuple #[.agg #[.int .i64 0, .int .i64 0, .int .i64 0, .bool false], .int .i64 0, .int .i64 2]) ∧ Below W.heap.size W w'
def KmNil : Prop := ∀ (W : World) (op a b : Int) (nt : Bool), Calls Try.prog 9 #[.pointer none, .int .i64 op, .int .i64 a, .int .i64 b, .bool nt] W fun e w' => e = .returned (.tuple #[.agg #[.int .i64 0, .int .i64 0, .int .i64 0, .bool false], .int .i64 0, .int .i64 16]) ∧ Below W.heap.size W w'
/-- Check, of any row and atom -/
def KcOk : Prop := ∀ (A : Option Addr) (n cap : Nat) (l : List TM.N), l.length = n → n ≤ cap → n ≤ 9223372036854775807 → (∀ x ∈ l, TM.okN x) → ∀ (o a b : Int) (nt : Bool), (Lit.int .i64 o).wf = true → (Lit.int .i64 a).wf = true → (Lit.int .i64 b).wf = true → ∀ W, LiesN W A l →
  Calls Try.prog 20 #[.slice A n cap, .agg #[.int .i64 o, .int .i64 a, .int .i64 b, .bool nt]] W fun e w' => e = .returned (.int .i64 (TM.chkA l o a b)) ∧ Below W.heap.size W w'
/-- Holds: of an atom that may be, of one that may not -/
def KhOk : Prop := ∀ (A : Option Addr) (n cap : Nat) (l : List TM.N), l.length = n → n ≤ cap → TM.Row l → (∀ x ∈ l, TM.okN x) → ∀ (r : List Int), R.okR r → ∀ (o : Int) (a b : Nat) (nt : Bool), TM.isQ o = true → a < n → b < n → ∀ W, LiesN W A l →
  Calls Try.prog 18 #[.slice A n cap, .agg #[.int .i64 o, .int .i64 ((a : Nat) : Int), .int .i64 ((b : Nat) : Int), .bool nt], .agg (RB.enc r)] W fun e w' => e = .returned (.tuple #[.bool (WM.ask o (TM.val l r a) (TM.val l r b) != nt), .int .i64 0]) ∧ Below W.heap.size W w'
def KhBad : Prop := ∀ (A : Option Addr) (n cap : Nat) (l : List TM.N), l.length = n → n ≤ cap → n ≤ 9223372036854775807 → (∀ x ∈ l, TM.okN x) → ∀ (r : List Int), R.okR r → ∀ (o a b : Int) (nt : Bool), (Lit.int .i64 o).wf = true → (Lit.int .i64 a).wf = true → (Lit.int .i64 b).wf = true → ∀ q, TM.chkA l o a b = q → q ≠ 0 → ∀ W, LiesN W A l →
  Calls Try.prog 18 #[.slice A n cap, .agg #[.int .i64 o, .int .i64 a, .int .i64 b, .bool nt], .agg (RB.enc r)] W fun e w' => e = .returned (.tuple #[.bool false, .int .i64 q]) ∧ Below W.heap.size W w'
def KtOk : Prop := ∀ (W : World) (o a b : Int) (nt : Bool), Calls Try.prog 19 #[.agg #[.int .i64 o, .int .i64 a, .int .i64 b, .bool nt]] W fun e w' => e = .returned (.agg #[.int .i64 o, .int .i64 a, .int .i64 b, .bool (!nt)]) ∧ Below W.heap.size W w'
/-- all nodes of a pool, in a row of their own -/
def PfOk (Pl : PoolIs) : Prop := ∀ (W : World) (F : Nat → Prop) (v : Value) (L : List TM.N), Pl W F v L → Calls Try.prog 10 #[v] W fun e w' => ∃ a c, e = .returned (.slice a L.length c) ∧ L.length ≤ c ∧ LiesN w' a L ∧ Below W.heap.size W w' ∧ (∀ g, blk a = some g → W.heap.size ≤ g)
def Aw13 : Prop := ∀ W, Calls Try.prog 5 #[] W fun e w' => e = .returned (.bool true) ∧ Below W.heap.size W w'
end Go.Proofs.Ytkeigicobcjleab.TB
