/-
  The few answers that the document fixes, as a walk over the Go text: they are as it says.
-/
import Derived.Test.YtcojhfppipdfoabInsReads
import Derived.Deep.RegionHeldLaw
namespace Go.Proofs.Ytcojhfppipdfoab.B
open Go.ChangeShapes Go.WideShapes Go.ChangeAt Go.RowKit
set_option linter.unusedVariables false

def i0 : M.I := (277, 2, 3, 67305985)
theorem ok0 : M.okI (277, 2, 3, 67305985) := by unfold M.okI; simp only; omega
theorem str0 : M.str (M.by8 (277, 2, 3, 67305985)) = { data := #[21, 1, 2, 3, 1, 2, 3, 4] } := by rfl

/-- A row that was built lies. -/
theorem lies_of_own {w : World} {base g n cap : Nat} {l : List M.I} (h : w.ownsRow base 32 4 (.slice (some ⟨g, 0, none⟩) n cap) n (i4s l)) (hn : l.length = n) : Lies w (some ⟨g, 0, none⟩) l := by
  rcases Nat.eq_zero_or_pos n with h0 | h0
  · left; exact List.eq_nil_of_length_eq_zero (by omega)
  · obtain ⟨g', cap', e, hb, hlt⟩ := h.form h0
    cases e
    refine .inr ⟨g, 0, rfl, hlt, fun j hj => ?_⟩
    have hc : ∀ q, q < 4 → w.cell? ⟨g, 0 + j * 4 + q, none⟩ = [Value.int .u16 l[j].1, .int .u8 l[j].2.1, .int .u8 l[j].2.2.1, .int .u32 l[j].2.2.2][q]? := fun q hq => by
      have e1 := h.cellAt (j * 4 + q) (by rw [← hn]; omega)
      rw [Nat.zero_add, e1]
      have : ∀ (l : List M.I) (j q : Nat) (hj : j < l.length), q < 4 → (i4s l)[j * 4 + q]? = [Value.int .u16 l[j].1, .int .u8 l[j].2.1, .int .u8 l[j].2.2.1, .int .u32 l[j].2.2.2][q]? := by
        intro l
        induction l with
        | nil => intro j q hj; simp at hj
        | cons a l ih =>
          intro j q hj hq
          rw [show i4s (a :: l) = [Value.int .u16 a.1, .int .u8 a.2.1, .int .u8 a.2.2.1, .int .u32 a.2.2.2] ++ i4s l from rfl]
          cases j with
          | zero => rw [List.getElem?_append_left (by simp; omega)]; simp
          | succ j => rw [List.getElem?_append_right (by simp; omega), show (j + 1) * 4 + q - [Value.int .u16 a.1, .int .u8 a.2.1, .int .u8 a.2.2.1, .int .u32 a.2.2.2].length = j * 4 + q from by simp; omega, ih j q (by simpa using hj) hq]; simp
      exact this l j q hj hq
    exact ⟨by simpa using hc 0 (by omega), by simpa using hc 1 (by omega), by simpa using hc 2 (by omega), by simpa using hc 3 (by omega)⟩

theorem make4097 : ∃ cs : Array Value, ∀ W : World, (Instr.makeSlice 22 (.int .i64 4097) (.int .i64 4097)).run Try.prog W = .ok (.slice (some ⟨W.heap.size, 0, none⟩) 4097 4097) (W.alloc (.cells cs 32)) := by
  obtain ⟨i0, hi, hz0, hz1, hz2⟩ := info_parts info39
  refine ⟨madeCells #[.int .u16 0, .int .u8 0, .int .u8 0, .int .u32 0] (4097 * 4), fun W => ?_⟩
  have := run_make (P := Try.prog) W 22 32 i0 _ Try.underlying22 hi hz0 .i64 .i64 4097 4097 (by omega) (by omega) (by rw [hz2]; omega) (by omega)
  rw [this, hz1]; rfl

theorem rd0 : M.rdl (M.str (M.pr [(277, 2, 3, 67305985), (277, 2, 3, 67305985)])) 2 = [(277, 2, 3, 67305985), (277, 2, 3, 67305985)] := by rfl

theorem rd2 {S : ByteArray} (h : S = M.str (M.by8 (277, 2, 3, 67305985))) : M.rdl (S ++ S) 2 = [(277, 2, 3, 67305985), (277, 2, 3, 67305985)] := by
  subst h; rw [M.str_append]; exact rd0
theorem pr2 {S : ByteArray} (h : S = M.str (M.by8 (277, 2, 3, 67305985))) : M.str (M.pr [(277, 2, 3, 67305985), (277, 2, 3, 67305985)]) = S ++ S := by
  subst h; rw [M.str_append]; rfl
theorem below_drawn {B : Nat} {a w : World} (h : Below B a w) (n : Nat) : Below B a (w.drewN n) := ⟨h.os, h.tape, h.output, h.size, h.block⟩
theorem lies_new2 (w : World) (c t f k : Int) : Lies (w.alloc (.cells #[.int .u16 c, .int .u8 t, .int .u8 f, .int .u32 k, .int .u16 c, .int .u8 t, .int .u8 f, .int .u32 k] 32)) (some ⟨w.heap.size, 0, none⟩) [(c, t, f, k), (c, t, f, k)] :=
  lies_of_own (n := 2) (cap := 2) (World.ownsRow_lit (base := w.heap.size) (e := 32) (size := 4) w #[.int .u16 c, .int .u8 t, .int .u8 f, .int .u32 k, .int .u16 c, .int .u8 t, .int .u8 f, .int .u32 k] 2 (Nat.le_refl _) (by unfold maxLen; omega) rfl) rfl
theorem bkeep {W w' : World} (h : Below W.heap.size W w') : (∀ b o, b < W.heap.size → w'.cell? ⟨b, o, none⟩ = W.cell? ⟨b, o, none⟩) ∧ Below W.heap.size W w' :=
  ⟨fun b o hb => h.cell (p := ⟨b, o, none⟩) hb, h⟩

end Go.Proofs.Ytcojhfppipdfoab.B
