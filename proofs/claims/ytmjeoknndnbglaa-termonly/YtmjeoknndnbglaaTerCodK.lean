/-
  The program's pool of layer 11: nodes as keys of a map, the pool's memory, New, Put of what may not stand or is there, as walks over the Go text.
-/
import Derived.Test.YtmjeoknndnbglaaTerCodI
import Derived.Test.YtmjeoknndnbglaaTerPool
import Derived.Test.YtmjeoknndnbglaaTerRefG
import Derived.Test.YtmjeoknndnbglaaTerAwake
import Derived.Maps.Own
import Derived.Maps.OwnOps
import Derived.Maps.OwnSet
import Derived.Maps.Views
import Derived.DeepKeys4
import Derived.LaidMore
namespace Go.Proofs.Ytmjeoknndnbglaa.TM
set_option linter.unusedVariables false
theorem fnd_app {L : List N} {x : N} (h : fnd L x = none) : fnd (L ++ [x]) x = some L.length := by
  rw [fnd_some]
  refine ⟨by simp, nat0_last L x, fun j hj => ?_⟩
  rw [nat0_append hj]; exact fnd_none.1 h j hj
theorem fnd_app' {L : List N} {x y : N} (h : y ≠ x) : fnd (L ++ [x]) y = fnd L y := by
  cases e : fnd L y with
  | some i =>
    obtain ⟨h1, h2, h3⟩ := fnd_some.1 e
    rw [fnd_some]
    exact ⟨by simp; omega, by rw [nat0_append h1]; exact h2, fun j hj => by rw [nat0_append (by omega)]; exact h3 j hj⟩
  | none =>
    rw [fnd_none]
    intro i hi
    rw [List.length_append, List.length_singleton] at hi
    by_cases e2 : i = L.length
    · subst e2; rw [nat0_last]; exact fun e3 => h e3.symm
    · rw [nat0_append (by omega)]; exact fnd_none.1 e i (by omega)
end Go.Proofs.Ytmjeoknndnbglaa.TM
namespace Go.Proofs.Ytmjeoknndnbglaa.TB
open Go.ChangeShapes Go.WideShapes Go.ChangeAt Go.RowKit Go.Maps
open Go.Sort hiding Below
set_option linter.unusedVariables false
set_option maxRecDepth 100000

theorem laidOutN : laidOutB Try.prog = true := by kernel_rfl
theorem lawN : Keyed Try.prog 56 := Keyed.of_law (deep_law_laid laidOutN (m := 3) (by omega) (of_decide_eq_true (by kernel_rfl)) (by kernel_rfl) (by kernel_rfl))
theorem zeroi (w : World) : (zeroValue 3).run Try.prog w = .ok (.int .i64 0) w := by kernel_rfl
/-- a node as a key -/
abbrev kn (x : TM.N) : Lit := .string (keyBytes [.int .i64 x.1, .int .i64 x.2.1, .int .i64 x.2.2.1, .int .u32 x.2.2.2])
theorem keyTypeN : Try.prog.keyType 56 = true := by kernel_rfl
theorem formedN (a b c d : Value) : (Value.agg #[a, b, c, d]).formed Try.prog 56 = true := by kernel_rfl
theorem sizeN : ∃ m, Try.prog.types.size = m + 1 := ⟨Try.prog.types.size - 1, by have : 0 < Try.prog.types.size := of_decide_eq_true (by kernel_rfl); omega⟩
theorem cellsN4 : Try.prog.cellsOf 56 = 4 := by kernel_rfl
theorem cellsI : Try.prog.cellsOf 3 = 1 := by kernel_rfl
theorem cellsU : Try.prog.cellsOf 23 = 1 := by kernel_rfl
theorem klI (m : Nat) (a : Int) (h : (Lit.int .i64 a).wf = true) : Try.prog.keyLits (m + 1) 3 [.int .i64 a] = some [.int .i64 a] := by
  unfold Program.keyLits; simp [Try.underlying3, h]
theorem klU (m : Nat) (a : Int) (h : (Lit.int .u32 a).wf = true) : Try.prog.keyLits (m + 1) 23 [.int .u32 a] = some [.int .u32 a] := by
  unfold Program.keyLits; simp [Try.underlying23, h]
theorem namesN : (Try.prog.fieldsOf 56).all (fun x => x.name != "_") = true := by kernel_rfl
theorem keyN {x : TM.N} (ok : TM.okN x) : keyOf Try.prog 56 (nv x) = some (kn x) := by
  obtain ⟨h0, h1, h2, h3⟩ := ok
  have w0 : (Lit.int .i64 x.1).wf = true := by simp [Lit.wf, IntKind.min, IntKind.max, IntKind.bits, IntKind.signed]; omega
  have w1 : (Lit.int .i64 x.2.1).wf = true := by simp [Lit.wf, IntKind.min, IntKind.max, IntKind.bits, IntKind.signed]; omega
  have w2 : (Lit.int .i64 x.2.2.1).wf = true := by simp [Lit.wf, IntKind.min, IntKind.max, IntKind.bits, IntKind.signed]; omega
  have w3 : (Lit.int .u32 x.2.2.2).wf = true := by simp [Lit.wf, IntKind.min, IntKind.max, IntKind.bits, IntKind.signed]; omega
  rw [show nv x = .agg #[.int .i64 x.1, .int .i64 x.2.1, .int .i64 x.2.2.1, .int .u32 x.2.2.2] from rfl]
  unfold keyOf
  simp only [Try.underlying56, keyTypeN, formedN, Bool.and_self, if_true, Value.cells]
  obtain ⟨m, hm⟩ : ∃ m, Try.prog.types.size = m + 1 := sizeN
  rw [hm]
  have e0 : Try.prog.keyLits (m + 1) 3 [.int .i64 x.1] = some [.int .i64 x.1] := klI m _ w0
  have e1 : Try.prog.keyLits (m + 1) 3 [.int .i64 x.2.1] = some [.int .i64 x.2.1] := klI m _ w1
  have e2 : Try.prog.keyLits (m + 1) 3 [.int .i64 x.2.2.1] = some [.int .i64 x.2.2.1] := klI m _ w2
  have e3 : Try.prog.keyLits (m + 1) 23 [.int .u32 x.2.2.2] = some [.int .u32 x.2.2.2] := klU m _ w3
  unfold Program.keyLits
  simp only [Try.underlying56]
  rw [if_pos ⟨by rw [cellsN4]; rfl, namesN⟩]
  simp only [List.mapM_cons, List.mapM_nil, cellsI, cellsU, List.drop_zero, List.drop_succ_cons, List.take_succ_cons, List.take_zero, e0, e1, e2, e3]
  rfl
theorem kn_inj {x y : TM.N} (hx : TM.okN x) (hy : TM.okN y) (h : kn x = kn y) : x = y := by
  have := lawN.inj (keyN hx) (by rw [h]; exact keyN hy)
  unfold nv at this
  obtain ⟨x0, x1, x2, x3⟩ := x
  obtain ⟨y0, y1, y2, y3⟩ := y
  simpa using this
end Go.Proofs.Ytmjeoknndnbglaa.TB
