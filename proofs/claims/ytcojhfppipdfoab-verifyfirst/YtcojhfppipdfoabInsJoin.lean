/-
  A list's instructions appended to a row of the call's own.
-/
import Derived.Test.YtcojhfppipdfoabInsLen
namespace Go.Proofs.Ytcojhfppipdfoab.B
open Go.ChangeShapes Go.WideShapes Go.ChangeAt Go.RowKit

theorem i4s_len (l : List M.I) : (i4s l).length = l.length * 4 := by
  induction l with
  | nil => rfl
  | cons a l ih => rw [show i4s (a :: l) = [Value.int .u16 a.1, .int .u8 a.2.1, .int .u8 a.2.2.1, .int .u32 a.2.2.2] ++ i4s l from rfl, List.length_append, ih, List.length_cons]; simp; omega
theorem i4s_append (l m : List M.I) : i4s (l ++ m) = i4s l ++ i4s m := by simp [i4s]
theorem i4s_get (l : List M.I) : ∀ (j q : Nat) (hj : j < l.length), q < 4 → (i4s l)[j * 4 + q]? = [Value.int .u16 l[j].1, .int .u8 l[j].2.1, .int .u8 l[j].2.2.1, .int .u32 l[j].2.2.2][q]? := by
  induction l with
  | nil => intro j q hj; simp at hj
  | cons a l ih =>
    intro j q hj hq
    rw [show i4s (a :: l) = [Value.int .u16 a.1, .int .u8 a.2.1, .int .u8 a.2.2.1, .int .u32 a.2.2.2] ++ i4s l from rfl]
    cases j with
    | zero => rw [List.getElem?_append_left (by simp; omega)]; simp
    | succ j => rw [List.getElem?_append_right (by simp; omega), show (j + 1) * 4 + q - [Value.int .u16 a.1, .int .u8 a.2.1, .int .u8 a.2.2.1, .int .u32 a.2.2.2].length = j * 4 + q from by simp; omega, ih j q (by simpa using hj) hq]; simp
theorem i4s_one (l : List M.I) : ∀ u ∈ i4s l, u.oneCell' = true := by
  intro u hu
  obtain ⟨i, _, hi⟩ := List.mem_flatMap.1 hu
  simp at hi
  rcases hi with rfl | rfl | rfl | rfl <;> rfl
theorem lies_cells {w : World} {b o : Nat} {l : List M.I} (h : Lies w (some ⟨b, o, none⟩) l) : ∀ (j : Nat) (u : Value), (i4s l)[j]? = some u → w.cell? ((⟨b, o, none⟩ : Addr).add j) = some u := by
  intro j u hu
  have hj : j < (i4s l).length := (List.getElem?_eq_some_iff.1 hu).1
  rw [i4s_len] at hj
  rcases h with h | ⟨b', o', e, _, h⟩
  · subst h; simp at hj
  · cases e
    obtain ⟨h0, h1, h2, h3⟩ := h (j / 4) (by omega)
    have hg := i4s_get l (j / 4) (j % 4) (by omega) (by omega)
    rw [show j / 4 * 4 + j % 4 = j from by omega, hu] at hg
    rw [add_plain]
    have hr : j % 4 = 0 ∨ j % 4 = 1 ∨ j % 4 = 2 ∨ j % 4 = 3 := by omega
    rcases hr with r | r | r | r <;> rw [r] at hg <;> simp at hg <;> subst hg
    · rw [show o + j = o + j / 4 * 4 from by omega]; exact h0
    · rw [show o + j = o + j / 4 * 4 + 1 from by omega]; exact h1
    · rw [show o + j = o + j / 4 * 4 + 2 from by omega]; exact h2
    · rw [show o + j = o + j / 4 * 4 + 3 from by omega]; exact h3
theorem own_empty (w : World) : (w.alloc (.cells #[] 32)).ownsRow w.heap.size 32 4 (.slice (some ⟨w.heap.size, 0, none⟩) 0 0) 0 [] :=
  World.ownsRow_lit (base := w.heap.size) (e := 32) (size := 4) w #[] 0 (Nat.le_refl _) (by unfold maxLen; omega) rfl

/-- An append that stands behind a guard that lets it by. -/
theorem wpList_append_g {P : Program} {w : World} {ops : Array Oper} {rest : List Oper} {o : Oper} {a : Act} {Q : Exit → Act → World → Prop} (hw : Region.wanted o (yielded ops a.tmps) = true) (s x : Operand) (t : TypeId)
    (ho : o.op = .call { callee := .builtin .append, args := #[s, x], argTypes := #[t, t] })
    (base : Nat) (e : TypeId) (i : TypeInfo) (z : Value) (size bytes : Nat) (ht : P.underlying t = some (.slice e)) (hi : P.info? e = some i) (hz : i.zero = some z)
    (hsize : i.size = size) (hby : i.bytes = bytes) (hzs : z.cells.size = size) (hsz : 0 < size)
    (v : Value) (n : Nat) (xs : List Value) (hs : a.eval s = v) (hown : w.ownsRow base e size v n xs)
    (ad : Addr) (m c : Nat) (news : List Value) (hx : a.eval x = .slice (some ad) m c) (hl : news.length = m * size) (hnews : ∀ j u, news[j]? = some u → w.cell? (ad.add j) = some u) (h1 : ∀ u ∈ news, u.oneCell' = true)
    (hm : 0 < m) (h63 : n + m ≤ maxLen) (hbytes : (n + m) * bytes ≤ 140737488355328) (hbase : base ≤ w.heap.size) (H : Nat) (hH : w.heap.size = H)
    (h : ∀ g cap w', w'.ownsRow base e size (.slice (some ⟨g, 0, none⟩) (n + m) cap) (n + m) (xs ++ news) → w.grownBy w' v.ownBlock → (v.ownBlock = some g ∨ g = H) → g < w'.heap.size → wpList P ops Q rest (a.put o.dst (.slice (some ⟨g, 0, none⟩) (n + m) cap)) w') : wpList P ops Q (o :: rest) a w :=
  wpList_step fun K hK => by
    rw [if_pos hw]
    exact wp_append_lies w s x t ho base e i z size bytes ht hi hz hsize hby hzs hsz v n xs hs hown ad m c news hx hl hnews h1 hm h63 hbytes hbase H hH fun g cap w' h2 h3 h4 h5 => hK _ _ (h g cap w' h2 h3 h4 h5)

theorem list_size {H : Type} {enc : TypeId × Value → H} {W : World} {base : Nat} {spare : Nat → Bool} {held : Bool} {a : Option Addr} {n cap : Nat} {d : DataW H} {p : List MemPlace}
    (h : DataW.Trod enc Try.prog W base spare held 22 (.slice a n cap) d p) : n = 0 ∨ ∃ E S, d = .slice E S ∧ E.length = n := by
  obtain ⟨fuel, hf⟩ := h
  rcases Go.Deep.open_slice Try.underlying22 hf with ⟨h0, _⟩ | ⟨a', len, cap', m, n', D, Pl, h0, hb, hl, hm, hmm, hx, each⟩
  · simp [Value.cells] at h0; exact .inl h0.2.1
  · simp [Value.cells] at h0
    simp only [Prod.mk.injEq] at hx
    exact .inr ⟨_, _, hx.1, by simp [h0.2.1]⟩
theorem bytes39 : Try.prog.bytesOf 32 = 8 := by kernel_rfl
end Go.Proofs.Ytcojhfppipdfoab.B
