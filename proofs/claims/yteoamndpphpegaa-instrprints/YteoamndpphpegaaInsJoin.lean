/-
  A list's instructions appended to a row of the call's own.
-/
import Derived.Test.YteoamndpphpegaaInsLen
namespace Go.Proofs.Yteoamndpphpegaa.B
open Go.ChangeShapes Go.WideShapes Go.ChangeAt Go.RowKit

theorem i4s_len (l : List M.I) : (i4s l).length = l.length * 4 := by
  induction l with
  | nil => rfl
  | cons a l ih => rw [show i4s (a :: l) = [Value.int .u16 a.1, .int .u8 a.2.1, .int .u8 a.2.2.1, .int .u32 a.2.2.2] ++ i4s l from rfl, List.length_append, ih, List.length_cons]; simp; omega
theorem i4s_append (l m : List M.I) : i4s (l ++ m) = i4s l ++ i4s m := by simp [i4s]
theorem i4s_get (l : List M.I) : ∀ (j q : Nat) (hj : j < l.length), q < 4 → (i4s l)[j * 4 + q]? = [Value.int .u16 l[j].1, .int .u8 l[j].2.1, .int .u8 l[j].2.2.1, .int .u32 l[j].2.2.2][q]? := by
  induction l with
  | nil => intro j q hj; simp at hj
  | cons a l ih =>
    intro j q hj hq
    rw [show i4s (a :: l) = [Value.int .u16 a.1, .int .u8 a.2.1, .int .u8 a.2.2.1, .int .u32 a.2.2.2] ++ i4s l from rfl]
    cases j with
    | zero => rw [List.getElem?_append_left (by simp; omega)]; simp
    | succ j => rw [List.getElem?_append_right (by simp; omega), show (j + 1) * 4 + q - [Value.int .u16 a.1, .int .u8 a.2.1, .int .u8 a.2.2.1, .int .u32 a.2.2.2].length = j * 4 + q from by simp; omega, ih j q (by simpa using hj) hq]; simp
theorem i4s_one (l : List M.I) : ∀ u ∈ i4s l, u.oneCell' = true := by
  intro u hu
  obtain ⟨i, _, hi⟩ := List.mem_flatMap.1 hu
  simp at hi
  rcases hi with rfl | rfl | rfl | rfl <;> rfl
theorem lies_cells {w : World} {b o : Nat} {l : List M.I} (h : Lies w (some ⟨b, o, none⟩) l) : ∀ (j : Nat) (u : Value), (i4s l)[j]? = some u → w.cell? ((⟨b, o, none⟩ : Addr).add j) = some u := by
  intro j u hu
  have hj : j < (i4s l).length := (List.getElem?_eq_some_iff.1 hu).1
  rw [i4s_len] at hj
  rcases h with h | ⟨b', o', e, _, h⟩
  · subst h; simp at hj
  · cases e
    obtain ⟨h0, h1, h2, h3⟩ := h (j / 4) (by omega)
    have hg := i4s_get l (j / 4) (j % 4) (by omega) (by omega)
    rw [show j / 4 * 4 + j % 4 = j from by omega, hu] at hg
    rw [add_plain]
    have hr : j % 4 = 0 ∨ j % 4 = 1 ∨ j % 4 = 2 ∨ j % 4 = 3 := by omega
    rcases hr with r | r | r | r <;> rw [r] at hg <;> simp at hg <;> subst hg
    · rw [show o + j = o + j / 4 * 4 from by omega]; exact h0
    · rw [show o + j = o + j / 4 * 4 + 1 from by omega]; exact h1
    · rw [show o + j = o + j / 4 * 4 + 2 from by omega]; exact h2
    · rw [show o + j = o + j / 4 * 4 + 3 from by omega]; exact h3
theorem own_empty (w : World) : (w.alloc (.cells #[] 39)).ownsRow w.heap.size 39 4 (.slice (some ⟨w.heap.size, 0, none⟩) 0 0) 0 [] :=
  World.ownsRow_lit (base := w.heap.size) (e := 39) (size := 4) w #[] 0 (Nat.le_refl _) (by unfold maxLen; omega) rfl
end Go.Proofs.Yteoamndpphpegaa.B
