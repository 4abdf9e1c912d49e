/-
  The reference's small functions of layer 12, and what a row that was made longer is, as walks over the Go text.
-/
import Derived.Test.YtkeigicobcjleabT3
import Derived.Test.YtkeigicobcjleabS1
namespace Go.Proofs.Ytkeigicobcjleab.TB
open Go.ChangeShapes Go.WideShapes Go.ChangeAt Go.RowKit
open Go.Sort hiding Below
set_option linter.unusedVariables false
set_option maxRecDepth 100000

/-- a row that was made longer, and a place in it -/
def RowAt (base : Nat) (w : World) (s : Option Addr) (L : List TM.N) (t : TM.Tr) (B : Nat) (e : Ending) (w' : World) : Prop :=
  ∃ s' n' c' L' p, e = .returned (.tuple #[.slice s' n' c', .int .i64 ((p : Nat) : Int)]) ∧ OwnN w' base s' n' c' L' ∧ w.grownBy w' (blk s) ∧ (∀ g, blk s' = some g → blk s = some g ∨ w.heap.size ≤ g) ∧ LiesN w' s L ∧ TM.Made L L' t p ∧ L'.length ≤ L.length + B
theorem RowAt.more {base : Nat} {w w' : World} {s : Option Addr} {L : List TM.N} {t : TM.Tr} {B C : Nat} {e : Ending} (h : RowAt base w s L t B e w') (hBC : B ≤ C) : RowAt base w s L t C e w' := by
  obtain ⟨s', n', c', L', p, h1, h2, h3, h4, h5, h6, h7⟩ := h
  exact ⟨s', n', c', L', p, h1, h2, h3, h4, h5, h6, by omega⟩
theorem RowAt.of_below {base : Nat} {w w1 w' : World} {s : Option Addr} {L : List TM.N} {t : TM.Tr} {B : Nat} {e : Ending} (hb : Below w.heap.size w w1) (h : RowAt base w1 s L t B e w') : RowAt base w s L t B e w' := by
  obtain ⟨s', n', c', L', p, h1, h2, h3, h4, h5, h6, h7⟩ := h
  exact ⟨s', n', c', L', p, h1, h2, gtrans hb h3, fun g hg => (h4 g hg).imp id fun h => Nat.le_trans hb.size h, h5, h6, h7⟩
theorem RowAt.here {base n c : Nat} {w w' : World} {s : Option Addr} {L : List TM.N} (hO : OwnN w base s n c L) (hb : Below w.heap.size w w') (h1 : TM.Row L) (h2 : TM.Once L) (h3 : ∀ x ∈ L, TM.okN x) {p : Nat} (hp : p < L.length) (B : Nat) :
    RowAt base w s L (TM.tr L p) B (.returned (.tuple #[.slice s n c, .int .i64 ((p : Nat) : Int)])) w' :=
  ⟨s, n, c, L, p, rfl, hO.below hb, ⟨hb.os, hb.tape, hb.output, hb.size, fun k hk _ => hb.block k hk⟩, fun g h => .inl h, (hO.below hb).lies, TM.Made.here h1 h2 h3 hp, by omega⟩
theorem lies_pre {w : World} {s : Option Addr} {L E : List TM.N} (h : LiesN w s (L ++ E)) : LiesN w s L := by
  rcases h with h | ⟨b, o, rfl, h1, h2⟩
  · left; cases L with
    | nil => rfl
    | cons a l => cases h
  · refine .inr ⟨b, o, rfl, h1, fun j hj => ?_⟩
    have := h2 j (by rw [List.length_append]; omega)
    rw [List.getElem_append_left hj] at this
    exact this
theorem own_form {w : World} {base n c : Nat} {s : Option Addr} {L : List TM.N} (h : OwnN w base s n c L) (h0 : 0 < L.length) : ∃ g, s = some ⟨g, 0, none⟩ ∧ base ≤ g ∧ g < w.heap.size := by
  rcases h.own.2 with ⟨h1, h2⟩ | ⟨g, c', cur, h1, h2, h3, _⟩
  · have := h.len; omega
  · injection h1 with h4
    exact ⟨g, h4, h2, (Array.getElem?_eq_some_iff.1 h3).1⟩
/-- what an old slice holds stays, over two steps -/
theorem lies_comp {w w1 w2 : World} {base n c n1 c1 : Nat} {s s1 : Option Addr} {L E : List TM.N} (hO : OwnN w base s n c L) (h1 : LiesN w1 s L) (hO1 : OwnN w1 base s1 n1 c1 (L ++ E)) (h2 : LiesN w2 s1 (L ++ E)) (hg : w1.grownBy w2 (blk s1))
    (hat : ∀ g, blk s1 = some g → blk s = some g ∨ w.heap.size ≤ g) : LiesN w2 s L := by
  by_cases h0 : L.length = 0
  · exact .inl (List.eq_nil_of_length_eq_zero h0)
  · obtain ⟨g, rfl, _, hgw⟩ := own_form hO (by omega)
    obtain ⟨g1, rfl, _, hg1⟩ := own_form hO1 (by rw [List.length_append]; omega)
    by_cases e : g1 = g
    · subst e; exact lies_pre h2
    · rcases h1 with h1 | ⟨b, o, e1, hb1, hc⟩
      · exact .inl h1
      · injection e1 with e1
        injection e1 with e1 e2
        subst e1 e2
        have hblk := hg.block g hb1 (by simp [blk]; omega)
        refine .inr ⟨g, 0, rfl, Nat.lt_of_lt_of_le hb1 hg.size, fun j hj => ?_⟩
        obtain ⟨q0, q1, q2, q3⟩ := hc j hj
        exact ⟨(World.cell?_of_block hblk).trans q0, (World.cell?_of_block hblk).trans q1, (World.cell?_of_block hblk).trans q2, (World.cell?_of_block hblk).trans q3⟩
/-- two steps, one behind the other -/
theorem RowAt.comp {base n c n1 c1 : Nat} {w w1 w2 : World} {s s1 : Option Addr} {L L1 : List TM.N} {t u : TM.Tr} {p : Nat} {B C : Nat} {e : Ending} (hO : OwnN w base s n c L)
    (hO1 : OwnN w1 base s1 n1 c1 L1) (hg1 : w.grownBy w1 (blk s)) (hat : ∀ g, blk s1 = some g → blk s = some g ∨ w.heap.size ≤ g) (hl1 : LiesN w1 s L) (hm : TM.Made L L1 t p) (hlen : L1.length ≤ L.length + B)
    (h : RowAt base w1 s1 L1 u C e w2) : RowAt base w s L u (B + C) e w2 := by
  obtain ⟨s', n', c', L', q, h1, h2, h3, h4, h5, h6, h7⟩ := h
  obtain ⟨E, hE⟩ := hm.pre
  subst hE
  refine ⟨s', n', c', L', q, h1, h2, gcomp hg1 h3 hat, fun g hg => ?_, lies_comp hO hl1 hO1 h5 h3 hat, hm.trans h6, by omega⟩
  rcases h4 g hg with h8 | h8
  · exact hat g h8
  · right; exact Nat.le_trans hg1.size h8

end Go.Proofs.Ytkeigicobcjleab.TB
