/-
  Two places as an argument: how an array of two ints comes in.
-/
import Derived.Test.YtkeigicobcjleaaTerArgs
namespace Go.Proofs.Ytkeigicobcjleaa.TB
open Go.ChangeShapes Go.WideShapes Go.ChangeAt Go.RowKit
open Go.Sort hiding Below
set_option linter.unusedVariables false
set_option maxRecDepth 100000
theorem cells2 : Try.prog.cellsOf 47 = 2 := by kernel_rfl
theorem cells2i : Try.prog.cellsOf 3 = 1 := by kernel_rfl
theorem arg_pair {H : Type} {ev : TypeId × Value → H} {W : World} {base : Nat} {spare : Nat → Bool} {held : Bool} {v : Value} {d : DataW H} {p : List MemPlace} {b0 : Nat} {r : Reach}
    (hv : Value.okWide Try.prog W r b0 47 v) (h : DataW.Trod ev Try.prog W base spare held 47 v d p) :
    ∃ x y : Int, v = .agg #[.int .i64 x, .int .i64 y] ∧ p = [] ∧ (Lit.int .i64 x).wf = true ∧ (Lit.int .i64 y).wf = true := by
  obtain ⟨cs, rfl, hsz, _⟩ : ∃ cs, v = .agg cs ∧ cs.size = Try.prog.cellsOf 47 ∧ Row.okWide Try.prog W r b0 47 cs := by
    simpa [Value.okWide, Try.underlying47] using hv
  rw [cells2] at hsz
  obtain ⟨fuel, hf⟩ := h
  obtain ⟨xs, m, _, hx, hl, hxl, hel⟩ := DataW.trod_array Try.underlying47 hf
  simp only [Value.cells] at hl hel
  have key : ∀ i, i < 2 → ∃ n : Int, cs[i]? = some (.int .i64 n) ∧ (∃ y, xs[i]? = some y ∧ y.2 = []) ∧ (Lit.int .i64 n).wf = true := by
    intro i hi
    have h1 := hel i hi
    obtain ⟨y, hy⟩ : ∃ y, xs[i]? = some y := ⟨_, List.getElem?_eq_getElem (by omega)⟩
    rw [hy] at h1
    obtain ⟨n, e1, e2, wf⟩ := DataW.trod_int Try.underlying3 h1
    rw [cells2i, Nat.mul_one] at e1
    refine ⟨n, ?_, ⟨y, hy, by rw [e2]⟩, wf⟩
    have := congrArg (fun l => l[0]?) e1
    simpa [List.getElem?_take, List.getElem?_drop] using this
  obtain ⟨x, ex, ⟨x', hx1, hx2⟩, bx⟩ := key 0 (by omega)
  obtain ⟨y, ey, ⟨y', hy1, hy2⟩, b2⟩ := key 1 (by omega)
  refine ⟨x, y, ?_, ?_, bx, b2⟩
  · congr 1
    apply Array.ext_getElem?
    intro i
    by_cases hi : i < 2
    · have : i = 0 ∨ i = 1 := by omega
      rcases this with rfl | rfl
      · rw [ex]; rfl
      · rw [ey]; rfl
    · rw [Array.getElem?_eq_none (by omega), Array.getElem?_eq_none (by show 2 ≤ i; omega)]
  · have hx' := congrArg Prod.snd hx
    simp only at hx'
    rw [hx']
    simp only [List.flatMap_eq_nil_iff]
    intro q hq
    obtain ⟨i, hi, rfl⟩ := List.getElem_of_mem hq
    obtain ⟨_, _, ⟨s, hs1, hs2⟩, _⟩ := key i (by omega)
    rw [List.getElem?_eq_getElem hi] at hs1
    injection hs1 with hs1
    rw [hs1]; exact hs2
end Go.Proofs.Ytkeigicobcjleaa.TB
