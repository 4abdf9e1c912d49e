/-
  A word's bits with a record: how they come in.
-/
import Derived.Test.YtkeigicobcjleabAtoArgs
namespace Go.Proofs.Ytkeigicobcjleab.TB
open Go.ChangeShapes Go.WideShapes Go.ChangeAt Go.RowKit Go.Deep
open Go.Sort hiding Below
set_option linter.unusedVariables false
set_option maxRecDepth 100000
theorem cellsBi : Try.prog.cellsOf 26 = 19 := by kernel_rfl
theorem cellsRe : Try.prog.cellsOf 24 = 16 := by kernel_rfl
theorem arg_bits {H : Type} {ev : TypeId × Value → H} {W : World} {base : Nat} {spare : Nat → Bool} {held : Bool} {v : Value} {d : DataW H} {p : List MemPlace} {b0 : Nat} {r : Reach}
    (hv : Value.okWide Try.prog W r b0 26 v) (h : DataW.Trod ev Try.prog W base spare held 26 v d p) :
    ∃ (x m k : Int) (l : List Int), v = .agg (#[.int .u32 x, .int .u32 m, .int .u32 k] ++ RB.enc l) ∧ p = [] ∧ (0 ≤ x ∧ x < 4294967296) ∧ (0 ≤ m ∧ m < 4294967296) ∧ (0 ≤ k ∧ k < 4294967296) ∧ R.okR l := by
  obtain ⟨cs, rfl, hsz⟩ := okWide_struct Try.underlying26 hv
  obtain ⟨fuel, hf⟩ := h
  obtain ⟨xs, n, _, hx, hl, hxl, hff⟩ := DataW.trod_struct Try.underlying26 hf
  rw [cellsBi] at hl
  simp only [Value.cells] at hff hl
  obtain ⟨cl⟩ := cs
  match xs, hxl with
  | [y0, y1, y2, y3], _ =>
    have g0 := hff 0 _ rfl
    have g1 := hff 1 _ rfl
    have g2 := hff 2 _ rfl
    have g3 := hff 3 _ rfl
    simp [cells34, cellsRe] at g0 g1 g2 g3
    obtain ⟨a, e0, hy0, w0⟩ := DataW.trod_int Try.underlying22 g0
    obtain ⟨b, e1, hy1, w1⟩ := DataW.trod_int Try.underlying22 g1
    obtain ⟨c, e2, hy2, w2⟩ := DataW.trod_int Try.underlying22 g2
    obtain ⟨l, e3, hy3, ok⟩ := RB.open_rec g3
    have b0 := bounds_u32 w0
    have b1 := bounds_u32 w1
    have b2 := bounds_u32 w2
    simp only at hl e0 e1 e2 e3
    refine ⟨a, b, c, l, ?_, by rw [Prod.mk.injEq] at hx; rw [hx.2]; simp [hy0, hy1, hy2, hy3], by omega, by omega, by omega, ok⟩
    congr 1
    apply Array.toList_inj.1
    show cl = ((#[Value.int .u32 a, Value.int .u32 b, Value.int .u32 c] : Array Value) ++ RB.enc l).toList
    have split : cl = cl.take 1 ++ (cl.tail.take 1 ++ ((cl.drop 2).take 1 ++ (cl.drop 3).take 16)) := by
      match cl, hl with
      | [c0, c1, c2, c3, c4, c5, c6, c7, c8, c9, c10, c11, c12, c13, c14, c15, c16, c17, c18], _ => rfl
    rw [split, e0, e1, e2, e3]
    simp
end Go.Proofs.Ytkeigicobcjleab.TB
