/-
  Nodes, a list of nodes, and a list of ints, as they come in.
-/
import Derived.Test.YtkeigicobcjleabTerBase
namespace Go.Proofs.Ytkeigicobcjleab.TB
open Go.ChangeShapes Go.WideShapes Go.ChangeAt Go.RowKit Go.Deep
set_option linter.unusedVariables false
set_option maxRecDepth 100000

theorem cellsN : Try.prog.cellsOf 28 = 4 := by kernel_rfl
theorem cells3 : Try.prog.cellsOf 3 = 1 := by kernel_rfl
theorem cells34 : Try.prog.cellsOf 22 = 1 := by kernel_rfl
theorem wf_bd {x : Int} (h : (Lit.int .i64 x).wf = true) : -9223372036854775808 ≤ x ∧ x < 9223372036854775808 := by
  simp [Lit.wf, IntKind.min, IntKind.max, IntKind.signed, IntKind.bits] at h; omega

theorem open_node {H : Type} {enc : TypeId × Value → H} {W : World} {base : Nat} {spare : Nat → Bool} {held : Bool} {fuel : Nat} {cs : List Value} {x : DataW H × List MemPlace}
    (h : DataW.trod enc Try.prog W base spare held fuel 28 cs = some x) :
    ∃ o a b k : Int, cs = [.int .i64 o, .int .i64 a, .int .i64 b, .int .u32 k] ∧ x.2 = [] ∧ TM.okN (o, a, b, k) := by
  obtain ⟨xs, n, _, hx, hl, hxl, hf⟩ := DataW.trod_struct Try.underlying28 h
  rw [cellsN] at hl
  match xs, hxl, cs, hl with
  | [y0, y1, y2, y3], _, [c0, c1, c2, c3], _ =>
    have g0 := hf 0 _ rfl
    have g1 := hf 1 _ rfl
    have g2 := hf 2 _ rfl
    have g3 := hf 3 _ rfl
    simp [cells3, cells34] at g0 g1 g2 g3
    obtain ⟨o, e0, hy0, w0⟩ := DataW.trod_int Try.underlying3 g0
    obtain ⟨a, e1, hy1, w1⟩ := DataW.trod_int Try.underlying3 g1
    obtain ⟨b, e2, hy2, w2⟩ := DataW.trod_int Try.underlying3 g2
    obtain ⟨k, e3, hy3, wk⟩ := DataW.trod_int Try.underlying22 g3
    simp at e0 e1 e2 e3
    subst e0 e1 e2 e3
    refine ⟨o, a, b, k, rfl, by rw [hx, hy0, hy1, hy2, hy3]; simp, ?_⟩
    have b0 := wf_bd w0
    have b1 := wf_bd w1
    have b2 := wf_bd w2
    have b3 := bounds_u32 wk
    exact ⟨b0, b1, b2, by simp only; omega⟩

theorem arg_nodes {H : Type} {enc : TypeId × Value → H} {W : World} {base : Nat} {spare : Nat → Bool} {held : Bool} {v : Value} {d : DataW H} {p : List MemPlace} {b0 : Nat} {r : Reach}
    (hv : Value.okWide Try.prog W r b0 29 v) (h : DataW.Trod enc Try.prog W base spare held 29 v d p) :
    ∃ (a : Option Addr) (cap : Nat) (l : List TM.N), v = .slice a l.length cap ∧ l.length ≤ cap ∧ cap ≤ maxLen ∧ LiesN W a l ∧ (∀ i ∈ l, TM.okN i) := by
  obtain ⟨a0, len0, cap0, rfl⟩ := okWide_slice Try.underlying29 hv
  obtain ⟨fuel, hf⟩ := h
  rcases open_slice Try.underlying29 hf with ⟨h0, _⟩ | ⟨a, len, cap, m, n, D, Pl, h0, hb, hl, hm, hmm, hx, each⟩
  · simp [Value.cells] at h0
    obtain ⟨rfl, rfl, rfl⟩ := h0
    exact ⟨none, 0, [], rfl, Nat.le_refl _, Nat.zero_le _, .inl rfl, by simp⟩
  · simp [Value.cells] at h0
    obtain ⟨rfl, rfl, rfl⟩ := h0
    have hlm : len0 ≤ m := by rw [hmm]; split <;> omega
    have key : ∀ i, i < len0 → ∃ q : TM.N, (W.cell? (a.add (i * 4)) = some (.int .i64 q.1) ∧ W.cell? (a.add (i * 4 + 1)) = some (.int .i64 q.2.1) ∧ W.cell? (a.add (i * 4 + 2)) = some (.int .i64 q.2.2.1) ∧ W.cell? (a.add (i * 4 + 3)) = some (.int .u32 q.2.2.2)) ∧ TM.okN q := by
      intro i hi
      obtain ⟨cs', h1, h2⟩ := each i (by omega)
      rw [cellsN] at h1
      obtain ⟨_, hlen, hcell⟩ := World.cells?_some h1
      obtain ⟨o, a', b, k, rfl, _, ok⟩ := open_node h2
      have e0 := hcell 0 (by omega)
      have e1 := hcell 1 (by omega)
      have e2 := hcell 2 (by omega)
      have e3 := hcell 3 (by omega)
      rw [add_add] at e0 e1 e2 e3
      exact ⟨(o, a', b, k), ⟨by simpa using e0, by simpa using e1, by simpa using e2, by simpa using e3⟩, ok⟩
    obtain ⟨q, hq⟩ := choose_lt key
    have hll : ((List.range len0).map q).length = len0 := by simp
    refine ⟨some a, cap0, (List.range len0).map q, by rw [hll], by rw [hll]; exact hl, hm, ?_, ?_⟩
    · rcases Nat.eq_zero_or_pos len0 with h0 | h0
      · left; subst h0; rfl
      · right
        obtain ⟨b, off, spot⟩ := a
        have h00 := (hq 0 h0).1.1
        have hspot : spot = none := by simpa [Addr.add] using World.cell?_spot h00
        subst hspot
        have hlt := World.block_lt_of_cell? W _ h00
        refine ⟨b, off, rfl, by simpa [Addr.add] using hlt, fun j hj => ?_⟩
        rw [hll] at hj
        obtain ⟨⟨q0, q1, q2, q3⟩, _⟩ := hq j hj
        rw [add_plain] at q0 q1 q2 q3
        simp only [List.getElem_map, List.getElem_range]
        exact ⟨q0, q1, q2, q3⟩
    · intro i hi
      obtain ⟨j, hj, rfl⟩ := List.mem_map.1 hi
      exact (hq j (by simpa using hj)).2

/-- ints that a slice holds -/
def LiesI (w : World) (a : Option Addr) (l : List Int) : Prop := l = [] ∨ ∃ b o, a = some ⟨b, o, none⟩ ∧ b < w.heap.size ∧ ∀ j (h : j < l.length), w.cell? ⟨b, o + j, none⟩ = some (.int .i64 l[j])
theorem LiesI.below {w w' : World} {a : Option Addr} {l : List Int} (h : LiesI w a l) (hb : Below w.heap.size w w') : LiesI w' a l := by
  rcases h with h | ⟨b, o, e, h1, h2⟩
  · exact .inl h
  · exact .inr ⟨b, o, e, Nat.lt_of_lt_of_le h1 hb.size, fun j hj => (hb.cell (p := ⟨b, o + j, none⟩) h1).trans (h2 j hj)⟩
theorem LiesI.at {w : World} {a : Option Addr} {l : List Int} (h : LiesI w a l) (h0 : 0 < l.length) : ∃ b o, a = some ⟨b, o, none⟩ ∧ b < w.heap.size ∧ ∀ j (h : j < l.length), w.cell? ⟨b, o + j, none⟩ = some (.int .i64 l[j]) := by
  rcases h with h | h
  · rw [h] at h0; simp at h0
  · exact h
theorem arg_ints {H : Type} {enc : TypeId × Value → H} {W : World} {base : Nat} {spare : Nat → Bool} {held : Bool} {v : Value} {d : DataW H} {p : List MemPlace} {b0 : Nat} {r : Reach}
    (hv : Value.okWide Try.prog W r b0 83 v) (h : DataW.Trod enc Try.prog W base spare held 83 v d p) :
    ∃ (a : Option Addr) (cap : Nat) (l : List Int), v = .slice a l.length cap ∧ l.length ≤ cap ∧ cap ≤ maxLen ∧ LiesI W a l ∧ (∀ i ∈ l, -9223372036854775808 ≤ i ∧ i < 9223372036854775808) := by
  obtain ⟨a0, len0, cap0, rfl⟩ := okWide_slice Try.underlying83 hv
  obtain ⟨fuel, hf⟩ := h
  rcases open_slice Try.underlying83 hf with ⟨h0, _⟩ | ⟨a, len, cap, m, n, D, Pl, h0, hb, hl, hm, hmm, hx, each⟩
  · simp [Value.cells] at h0
    obtain ⟨rfl, rfl, rfl⟩ := h0
    exact ⟨none, 0, [], rfl, Nat.le_refl _, Nat.zero_le _, .inl rfl, by simp⟩
  · simp [Value.cells] at h0
    obtain ⟨rfl, rfl, rfl⟩ := h0
    have hlm : len0 ≤ m := by rw [hmm]; split <;> omega
    have key : ∀ i, i < len0 → ∃ q : Int, W.cell? (a.add i) = some (.int .i64 q) ∧ (-9223372036854775808 ≤ q ∧ q < 9223372036854775808) := by
      intro i hi
      obtain ⟨cs', h1, h2⟩ := each i (by omega)
      rw [cells3] at h1
      obtain ⟨_, hlen, hcell⟩ := World.cells?_some h1
      obtain ⟨q, hq, _, wq⟩ := DataW.trod_int Try.underlying3 h2
      have e0 := hcell 0 (by omega)
      rw [add_add] at e0
      subst hq
      exact ⟨q, by simpa using e0, wf_bd wq⟩
    obtain ⟨q, hq⟩ := choose_lt key
    have hll : ((List.range len0).map q).length = len0 := by simp
    refine ⟨some a, cap0, (List.range len0).map q, by rw [hll], by rw [hll]; exact hl, hm, ?_, ?_⟩
    · rcases Nat.eq_zero_or_pos len0 with h0 | h0
      · left; subst h0; rfl
      · right
        obtain ⟨b, off, spot⟩ := a
        have h00 := (hq 0 h0).1
        have hspot : spot = none := by simpa [Addr.add] using World.cell?_spot h00
        subst hspot
        have hlt := World.block_lt_of_cell? W _ h00
        refine ⟨b, off, rfl, by simpa [Addr.add] using hlt, fun j hj => ?_⟩
        rw [hll] at hj
        have q0 := (hq j hj).1
        rw [add_plain] at q0
        simp only [List.getElem_map, List.getElem_range]
        exact q0
    · intro i hi
      obtain ⟨j, hj, rfl⟩ := List.mem_map.1 hi
      exact (hq j (by simpa using hj)).2
end Go.Proofs.Ytkeigicobcjleab.TB
