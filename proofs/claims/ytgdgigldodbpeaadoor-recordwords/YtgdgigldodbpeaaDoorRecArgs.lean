/-
  A record as it comes in.
-/
import Derived.Test.YtgdgigldodbpeaaDoorRecBase
import Derived.Carry
namespace Go.Proofs.YtgdgigldodbpeaaDoor.B
open Go.ChangeShapes Go.WideShapes Go.ChangeAt Go.RowKit
set_option linter.unusedVariables false

theorem cells24 : Tryd.prog.cellsOf 24 = 16 := by kernel_rfl
theorem cells22 : Tryd.prog.cellsOf 22 = 1 := by kernel_rfl

theorem open_rec {H : Type} {ev : TypeId × Value → H} {W : World} {base : Nat} {spare : Nat → Bool} {held : Bool} {fuel : Nat} {cs : List Value} {x : DataW H × List MemPlace}
    (h : DataW.trod ev Tryd.prog W base spare held fuel 24 cs = some x) :
    ∃ l : List Int, cs = (enc l).toList ∧ x.2 = [] ∧ M.okR l := by
  obtain ⟨xs, m, _, hx, hl, hxl, hel⟩ := DataW.trod_array Tryd.underlying24 h
  rw [cells24] at hl
  have key : ∀ i, i < 16 → ∃ n : Int, cs[i]? = some (.int .u32 n) ∧ (∃ y, xs[i]? = some y ∧ y.2 = []) ∧ (0 ≤ n ∧ n < 4294967296) := by
    intro i hi
    have h1 := hel i hi
    obtain ⟨y, hy⟩ : ∃ y, xs[i]? = some y := ⟨_, List.getElem?_eq_getElem (by omega)⟩
    rw [hy] at h1
    obtain ⟨n, e1, e2, wf⟩ := DataW.trod_int Tryd.underlying22 h1
    rw [cells22, Nat.mul_one] at e1
    refine ⟨n, ?_, ⟨y, hy, by rw [e2]⟩, by have := bounds_u32 wf; omega⟩
    have := congrArg (fun l => l[0]?) e1
    simpa [List.getElem?_take, List.getElem?_drop] using this
  obtain ⟨l, hl16, hg⟩ : ∃ l : List Int, l.length = 16 ∧ ∀ i, i < 16 → ∀ n, cs[i]? = some (.int .u32 n) → M.at_ l i = n := by
    refine ⟨(List.range 16).map fun i => intOf (cs.getD i (.int .u32 0)), by simp, fun i hi n hn => ?_⟩
    simp [M.at_, List.getD_eq_getElem?_getD, List.getElem?_range hi, hn, intOf]
  refine ⟨l, ?_, ?_, hl16, ?_⟩
  · apply List.ext_getElem?
    intro i
    by_cases hi : i < 16
    · obtain ⟨n, e, _, _⟩ := key i hi
      rw [e, Array.getElem?_toList, enc_get hl16 i hi, hg i hi n e]
    · rw [List.getElem?_eq_none (by omega), List.getElem?_eq_none (by rw [Array.length_toList, enc_size hl16]; omega)]
  · rw [hx]
    simp only [List.flatMap_eq_nil_iff]
    intro y hy
    obtain ⟨i, hi, rfl⟩ := List.getElem_of_mem hy
    obtain ⟨_, _, ⟨z, hz, hz2⟩, _⟩ := key i (by omega)
    rw [List.getElem?_eq_getElem hi] at hz
    simp only [Option.some.injEq] at hz
    rw [hz]; exact hz2
  · intro i
    by_cases hi : i < 16
    · obtain ⟨n, e, _, b⟩ := key i hi
      have := hg i hi n e
      unfold M.at_ at this
      rw [this]; exact b
    · rw [List.getD_eq_getElem?_getD, List.getElem?_eq_none (by omega)]; decide

theorem arg_rec {H : Type} {ev : TypeId × Value → H} {W : World} {base : Nat} {spare : Nat → Bool} {held : Bool} {v : Value} {d : DataW H} {p : List MemPlace} {b0 : Nat} {r : Reach}
    (hv : Value.okWide Tryd.prog W r b0 24 v) (h : DataW.Trod ev Tryd.prog W base spare held 24 v d p) :
    ∃ l : List Int, v = .agg (enc l) ∧ p = [] ∧ M.okR l := by
  obtain ⟨cs, rfl, hsz, _⟩ : ∃ cs, v = .agg cs ∧ cs.size = Tryd.prog.cellsOf 24 ∧ Row.okWide Tryd.prog W r b0 24 cs := by
    simpa [Value.okWide, Tryd.underlying24] using hv
  obtain ⟨fuel, hf⟩ := h
  obtain ⟨l, e, e2, ok⟩ := open_rec hf
  refine ⟨l, ?_, e2, ok⟩
  simp only [Value.cells] at e
  rw [Array.toList_inj.1 e]
end Go.Proofs.YtgdgigldodbpeaaDoor.B
