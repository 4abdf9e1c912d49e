/-
  A row of truths, as it comes in.
-/
import Derived.Test.YtcojhfppipdfoaaVerLawY
import Derived.Test.YtcojhfppipdfoaaInsArgs
namespace Go.Proofs.Ytcojhfppipdfoaa.B
open Go.ChangeShapes Go.WideShapes Go.ChangeAt Go.RowKit Go.Deep
set_option linter.unusedVariables false
set_option maxRecDepth 100000

theorem cellsb : Try.prog.cellsOf 4 = 1 := by kernel_rfl
theorem arg_bools {H : Type} {enc : TypeId × Value → H} {W : World} {base : Nat} {spare : Nat → Bool} {held : Bool} {v : Value} {d : DataW H} {p : List MemPlace} {b0 : Nat} {r : Reach}
    (hv : Value.okWide Try.prog W r b0 35 v) (h : DataW.Trod enc Try.prog W base spare held 35 v d p) :
    ∃ (a : Option Addr) (cap : Nat) (l : List Bool), v = .slice a l.length cap ∧ l.length ≤ cap ∧ cap ≤ maxLen ∧ LyB W a l := by
  obtain ⟨a0, len0, cap0, rfl⟩ := okWide_slice Try.underlying35 hv
  obtain ⟨fuel, hf⟩ := h
  rcases open_slice Try.underlying35 hf with ⟨h0, _⟩ | ⟨a, len, cap, m, n, D, Pl, h0, hb, hl, hm, hmm, hx, each⟩
  · simp [Value.cells] at h0
    obtain ⟨rfl, rfl, rfl⟩ := h0
    exact ⟨none, 0, [], rfl, Nat.le_refl _, Nat.zero_le _, .inl rfl⟩
  · simp [Value.cells] at h0
    obtain ⟨rfl, rfl, rfl⟩ := h0
    have hlm : len0 ≤ m := by rw [hmm]; split <;> omega
    have key : ∀ i, i < len0 → ∃ q : Bool, W.cell? (a.add i) = some (.bool q) := by
      intro i hi
      obtain ⟨cs', h1, h2⟩ := each i (by omega)
      rw [cellsb] at h1
      obtain ⟨_, hlen, hcell⟩ := World.cells?_some h1
      obtain ⟨q, rfl, _⟩ := DataW.trod_bool Try.underlying4 h2
      have e0 := hcell 0 (by omega)
      rw [add_add] at e0
      exact ⟨q, by simpa using e0⟩
    obtain ⟨q, hq⟩ := choose_lt key
    have hll : ((List.range len0).map q).length = len0 := by simp
    refine ⟨some a, cap0, (List.range len0).map q, by rw [hll], by rw [hll]; exact hl, hm, ?_⟩
    rcases Nat.eq_zero_or_pos len0 with h0 | h0
    · left; subst h0; rfl
    · right
      obtain ⟨b, off, spot⟩ := a
      have h00 := hq 0 h0
      have hspot : spot = none := by simpa [Addr.add] using World.cell?_spot h00
      subst hspot
      have hlt := World.block_lt_of_cell? W _ h00
      refine ⟨b, off, rfl, by simpa [Addr.add] using hlt, fun j hj => ?_⟩
      rw [hll] at hj
      have q0 := hq j hj
      rw [add_plain] at q0
      simp only [List.getElem_map, List.getElem_range]
      exact q0
end Go.Proofs.Ytcojhfppipdfoaa.B
