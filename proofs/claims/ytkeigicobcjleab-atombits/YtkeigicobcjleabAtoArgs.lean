/-
  An atom as an argument; a word's bits with a record: how they come in.
-/
import Derived.Test.YtkeigicobcjleabTerArgs
import Derived.Test.YtkeigicobcjleabHX
namespace Go.Proofs.Ytkeigicobcjleab.TB
open Go.ChangeShapes Go.WideShapes Go.ChangeAt Go.RowKit Go.Deep
open Go.Sort hiding Below
set_option linter.unusedVariables false
set_option maxRecDepth 100000
theorem cellsAt : Try.prog.cellsOf 31 = 4 := by kernel_rfl
theorem cellsBo : Try.prog.cellsOf 4 = 1 := by kernel_rfl
theorem arg_atom {H : Type} {ev : TypeId × Value → H} {W : World} {base : Nat} {spare : Nat → Bool} {held : Bool} {v : Value} {d : DataW H} {p : List MemPlace} {b0 : Nat} {r : Reach}
    (hv : Value.okWide Try.prog W r b0 31 v) (h : DataW.Trod ev Try.prog W base spare held 31 v d p) :
    ∃ (o a b : Int) (n : Bool), v = .agg #[.int .i64 o, .int .i64 a, .int .i64 b, .bool n] ∧ p = [] ∧ (Lit.int .i64 o).wf = true ∧ (Lit.int .i64 a).wf = true ∧ (Lit.int .i64 b).wf = true := by
  obtain ⟨cs, rfl, hsz⟩ := okWide_struct Try.underlying31 hv
  obtain ⟨fuel, hf⟩ := h
  obtain ⟨xs, n, _, hx, hl, hxl, hff⟩ := DataW.trod_struct Try.underlying31 hf
  rw [cellsAt] at hl
  simp only [Value.cells] at hff hl
  obtain ⟨cl⟩ := cs
  match xs, hxl, cl, hl with
  | [y0, y1, y2, y3], _, [c0, c1, c2, c3], _ =>
    have g0 := hff 0 _ rfl
    have g1 := hff 1 _ rfl
    have g2 := hff 2 _ rfl
    have g3 := hff 3 _ rfl
    simp [cells3, cellsBo] at g0 g1 g2 g3
    obtain ⟨o, e0, hy0, w0⟩ := DataW.trod_int Try.underlying3 g0
    obtain ⟨a, e1, hy1, w1⟩ := DataW.trod_int Try.underlying3 g1
    obtain ⟨b, e2, hy2, w2⟩ := DataW.trod_int Try.underlying3 g2
    obtain ⟨q, e3, hy3⟩ := DataW.trod_bool Try.underlying4 g3
    simp at e0 e1 e2 e3
    subst e0 e1 e2 e3
    exact ⟨o, a, b, q, rfl, by rw [Prod.mk.injEq] at hx; rw [hx.2]; simp [hy0, hy1, hy2, hy3], w0, w1, w2⟩
end Go.Proofs.Ytkeigicobcjleab.TB
