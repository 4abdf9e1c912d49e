/-
  A record with two fields and two numbers, as it comes in.
-/
import Derived.Test.YtgdgigldodbpeaaDoorRecArgs
namespace Go.Proofs.YtgdgigldodbpeaaDoor.B
open Go.ChangeShapes Go.WideShapes Go.ChangeAt Go.RowKit
set_option linter.unusedVariables false

def enc5 (l : List Int) (f g v u : Int) : Array Value := enc l ++ #[.int .i64 f, .int .i64 g, .int .u64 v, .int .u64 u]
theorem enc5_low {l : List Int} (h : l.length = 16) (f g v u : Int) (k : Nat) (hk : k < 16) : (enc5 l f g v u)[k]? = (enc l)[k]? := by
  unfold enc5
  rw [Array.getElem?_append_left (by rw [enc_size h]; exact hk)]
theorem enc5_high {l : List Int} (h : l.length = 16) (f g v u : Int) (k : Nat) : (enc5 l f g v u)[16 + k]? = (#[.int .i64 f, .int .i64 g, .int .u64 v, .int .u64 u] : Array Value)[k]? := by
  unfold enc5
  rw [Array.getElem?_append_right (by rw [enc_size h]; omega), enc_size h, show 16 + k - 16 = k by omega]
theorem cells51 : Tryd.prog.cellsOf 51 = 20 := by kernel_rfl
theorem cells3 : Tryd.prog.cellsOf 3 = 1 := by kernel_rfl
theorem cells25 : Tryd.prog.cellsOf 25 = 1 := by kernel_rfl

theorem arg_two {H : Type} {ev : TypeId × Value → H} {W : World} {base : Nat} {spare : Nat → Bool} {held : Bool} {v : Value} {d : DataW H} {p : List MemPlace} {b0 : Nat} {r : Reach}
    (hv : Value.okWide Tryd.prog W r b0 51 v) (h : DataW.Trod ev Tryd.prog W base spare held 51 v d p) :
    ∃ (l : List Int) (f g x u : Int), v = .agg (enc5 l f g x u) ∧ p = [] ∧ M.okR l ∧ (0 ≤ x ∧ x < 18446744073709551616) ∧ (0 ≤ u ∧ u < 18446744073709551616) := by
  obtain ⟨cs, rfl, hsz⟩ := okWide_struct Tryd.underlying51 hv
  obtain ⟨fuel, hf⟩ := h
  obtain ⟨xs, n, _, hx, hl, hxl, hff⟩ := DataW.trod_struct Tryd.underlying51 hf
  rw [cells51] at hl
  simp only [Value.cells] at hff hl
  obtain ⟨cl⟩ := cs
  match xs, hxl with
  | [y0, y1, y2, y3, y4], _ =>
    have g0 := hff 0 _ rfl
    have g1 := hff 1 _ rfl
    have g2 := hff 2 _ rfl
    have g3 := hff 3 _ rfl
    have g4 := hff 4 _ rfl
    simp [cells24, cells3, cells25] at g0 g1 g2 g3 g4
    obtain ⟨l, e0, hy0, ok⟩ := open_rec g0
    obtain ⟨f, e1, hy1, _⟩ := DataW.trod_int Tryd.underlying3 g1
    obtain ⟨g, e2, hy2, _⟩ := DataW.trod_int Tryd.underlying3 g2
    obtain ⟨x, e3, hy3, wx⟩ := DataW.trod_int Tryd.underlying25 g3
    obtain ⟨u, e4, hy4, wu⟩ := DataW.trod_int Tryd.underlying25 g4
    have bx := bounds_u64 wx
    have bu := bounds_u64 wu
    simp only at hl e0 e1 e2 e3 e4
    refine ⟨l, f, g, x, u, ?_, by rw [Prod.mk.injEq] at hx; rw [hx.2]; simp [hy0, hy1, hy2, hy3, hy4], ok, by omega, by omega⟩
    congr 1
    apply Array.toList_inj.1
    show cl = (enc5 l f g x u).toList
    have split : cl = cl.take 16 ++ ((cl.drop 16).take 1 ++ ((cl.drop 17).take 1 ++ ((cl.drop 18).take 1 ++ (cl.drop 19).take 1))) := by
      apply List.ext_getElem?
      intro i
      by_cases h16 : i < 16
      · rw [List.getElem?_append_left (by simp; omega)]
        simp [h16]
      · match cl, hl, i, h16 with
        | [c0, c1, c2, c3, c4, c5, c6, c7, c8, c9, c10, c11, c12, c13, c14, c15, c16, c17, c18, c19], _, i, _ => rfl
    rw [split, e0, e1, e2, e3, e4]
    unfold enc5
    simp
end Go.Proofs.YtgdgigldodbpeaaDoor.B
