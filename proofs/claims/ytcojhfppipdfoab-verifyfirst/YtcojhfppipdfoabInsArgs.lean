/-
  An instruction, and a list of instructions, as they come in.
-/
import Derived.Test.YtcojhfppipdfoabInsSame
import Derived.Deep.Slices
import Derived.Carry
namespace Go.Proofs.Ytcojhfppipdfoab.B
open Go.ChangeShapes Go.WideShapes Go.ChangeAt Go.RowKit Go.Deep
set_option linter.unusedVariables false
set_option maxRecDepth 100000

theorem cells39 : Try.prog.cellsOf 32 = 4 := by kernel_rfl
theorem cells36 : Try.prog.cellsOf 29 = 1 := by kernel_rfl
theorem cells5 : Try.prog.cellsOf 5 = 1 := by kernel_rfl
theorem cells37 : Try.prog.cellsOf 30 = 1 := by kernel_rfl

theorem open_cells {H : Type} {enc : TypeId × Value → H} {W : World} {base : Nat} {spare : Nat → Bool} {held : Bool} {fuel : Nat} {cs : List Value} {x : DataW H × List MemPlace}
    (h : DataW.trod enc Try.prog W base spare held fuel 32 cs = some x) :
    ∃ c t f k : Int, cs = [.int .u16 c, .int .u8 t, .int .u8 f, .int .u32 k] ∧ x.2 = [] ∧ M.okI (c, t, f, k) := by
  obtain ⟨xs, n, _, hx, hl, hxl, hf⟩ := DataW.trod_struct Try.underlying32 h
  rw [cells39] at hl
  match xs, hxl, cs, hl with
  | [y0, y1, y2, y3], _, [c0, c1, c2, c3], _ =>
    have g0 := hf 0 _ rfl
    have g1 := hf 1 _ rfl
    have g2 := hf 2 _ rfl
    have g3 := hf 3 _ rfl
    simp [cells36, cells5, cells37] at g0 g1 g2 g3
    obtain ⟨c, e0, hy0, wc⟩ := DataW.trod_int Try.underlying29 g0
    obtain ⟨t, e1, hy1, wt⟩ := DataW.trod_int Try.underlying5 g1
    obtain ⟨f, e2, hy2, wf⟩ := DataW.trod_int Try.underlying5 g2
    obtain ⟨k, e3, hy3, wk⟩ := DataW.trod_int Try.underlying30 g3
    simp at e0 e1 e2 e3
    subst e0 e1 e2 e3
    refine ⟨c, t, f, k, rfl, by rw [hx, hy0, hy1, hy2, hy3]; simp, ?_⟩
    have b0 := bounds_u16 wc
    have b1 := bounds_u8 wt
    have b2 := bounds_u8 wf
    have b3 := bounds_u32 wk
    unfold M.okI
    simp only
    omega

theorem arg_one {H : Type} {enc : TypeId × Value → H} {W : World} {base : Nat} {spare : Nat → Bool} {held : Bool} {v : Value} {d : DataW H} {p : List MemPlace} {b0 : Nat} {r : Reach}
    (hv : Value.okWide Try.prog W r b0 32 v) (h : DataW.Trod enc Try.prog W base spare held 32 v d p) :
    ∃ c t f k : Int, v = .agg #[.int .u16 c, .int .u8 t, .int .u8 f, .int .u32 k] ∧ p = [] ∧ M.okI (c, t, f, k) := by
  obtain ⟨cs, rfl, hsz⟩ := okWide_struct Try.underlying32 hv
  obtain ⟨fuel, hf⟩ := h
  obtain ⟨c, t, f, k, e, e2, ok⟩ := open_cells hf
  refine ⟨c, t, f, k, ?_, e2, ok⟩
  simp [Value.cells] at e
  rw [← Array.toList_inj.1 (show cs.toList = (#[.int .u16 c, .int .u8 t, .int .u8 f, .int .u32 k] : Array Value).toList from e)]

theorem arg_list {H : Type} {enc : TypeId × Value → H} {W : World} {base : Nat} {spare : Nat → Bool} {held : Bool} {v : Value} {d : DataW H} {p : List MemPlace} {b0 : Nat} {r : Reach}
    (hv : Value.okWide Try.prog W r b0 22 v) (h : DataW.Trod enc Try.prog W base spare held 22 v d p) :
    ∃ (a : Option Addr) (cap : Nat) (l : List M.I), v = .slice a l.length cap ∧ l.length ≤ cap ∧ cap ≤ maxLen ∧ Lies W a l ∧ (∀ i ∈ l, M.okI i) ∧ (l = [] ∧ a = none ∧ cap = 0 ∨ ∃ A, a = some A) := by
  obtain ⟨a0, len0, cap0, rfl⟩ := okWide_slice Try.underlying22 hv
  obtain ⟨fuel, hf⟩ := h
  rcases open_slice Try.underlying22 hf with ⟨h0, _⟩ | ⟨a, len, cap, m, n, D, Pl, h0, hb, hl, hm, hmm, hx, each⟩
  · simp [Value.cells] at h0
    obtain ⟨rfl, rfl, rfl⟩ := h0
    exact ⟨none, 0, [], rfl, Nat.le_refl _, Nat.zero_le _, .inl rfl, by simp, .inl ⟨rfl, rfl, rfl⟩⟩
  · simp [Value.cells] at h0
    obtain ⟨rfl, rfl, rfl⟩ := h0
    have hlm : len0 ≤ m := by rw [hmm]; split <;> omega
    have key : ∀ i, i < len0 → ∃ q : M.I, (W.cell? (a.add (i * 4)) = some (.int .u16 q.1) ∧ W.cell? (a.add (i * 4 + 1)) = some (.int .u8 q.2.1) ∧ W.cell? (a.add (i * 4 + 2)) = some (.int .u8 q.2.2.1) ∧ W.cell? (a.add (i * 4 + 3)) = some (.int .u32 q.2.2.2)) ∧ M.okI q := by
      intro i hi
      obtain ⟨cs', h1, h2⟩ := each i (by omega)
      rw [cells39] at h1
      obtain ⟨_, hlen, hcell⟩ := World.cells?_some h1
      obtain ⟨c, t, f, k, rfl, _, ok⟩ := open_cells h2
      have e0 := hcell 0 (by omega)
      have e1 := hcell 1 (by omega)
      have e2 := hcell 2 (by omega)
      have e3 := hcell 3 (by omega)
      rw [add_add] at e0 e1 e2 e3
      exact ⟨(c, t, f, k), ⟨by simpa using e0, by simpa using e1, by simpa using e2, by simpa using e3⟩, ok⟩
    obtain ⟨q, hq⟩ := choose_lt key
    have hll : ((List.range len0).map q).length = len0 := by simp
    refine ⟨some a, cap0, (List.range len0).map q, by rw [hll], by rw [hll]; exact hl, hm, ?_, ?_, .inr ⟨a, rfl⟩⟩
    · rcases Nat.eq_zero_or_pos len0 with h0 | h0
      · left; subst h0; rfl
      · right
        obtain ⟨b, off, spot⟩ := a
        have h00 := (hq 0 h0).1.1
        have hspot : spot = none := by simpa [Addr.add] using World.cell?_spot h00
        subst hspot
        have hlt := World.block_lt_of_cell? W _ h00
        refine ⟨b, off, rfl, by simpa [Addr.add] using hlt, fun j hj => ?_⟩
        rw [hll] at hj
        obtain ⟨⟨q0, q1, q2, q3⟩, _⟩ := hq j hj
        rw [add_plain] at q0 q1 q2 q3
        simp only [List.getElem_map, List.getElem_range]
        exact ⟨q0, q1, q2, q3⟩
    · intro i hi
      obtain ⟨j, hj, rfl⟩ := List.mem_map.1 hi
      exact (hq j (by simpa using hj)).2
end Go.Proofs.Ytcojhfppipdfoab.B
