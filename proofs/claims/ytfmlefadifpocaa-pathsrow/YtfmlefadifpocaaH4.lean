/-
  The bytes of a program, as walks over the Go text: instr.Print and the reference's.
-/
import Derived.Test.YtfmlefadifpocaaH1
import Derived.Laws.Strings2
import Derived.Laws.Strings3
import Derived.Deep.RegionHeldLaw
namespace Go.Proofs.Ytfmlefadifpocaa.B
open Go.ChangeShapes Go.WideShapes Go.ChangeAt Go.RowKit
set_option linter.unusedVariables false

theorem prt_succ {l : List M.I} {k : Nat} (h : k < l.length) : M.pr (l.take (k + 1)) = M.pr (l.take k) ++ M.by8 l[k] := by
  rw [List.take_succ_eq_append_getElem h, M.pr_snoc]
theorem u8s_append (a b : List Int) : u8s (a ++ b) = u8s a ++ u8s b := by simp [u8s]

theorem own_form {w : World} {base : Nat} {e : TypeId} {size : Nat} {v : Value} {n : Nat} {xs : List Value} (h : w.ownsRow base e size v n xs) (hn : 0 < n) : ∃ g cap, v = .slice (some ⟨g, 0, none⟩) n cap := by
  rcases h.2 with ⟨h', h0⟩ | ⟨g, cap, cur, h', _⟩
  · omega
  · exact ⟨g, cap, h'⟩

end Go.Proofs.Ytfmlefadifpocaa.B
namespace Go.Proofs.Ytfmlefadifpocaa.B
open Go.ChangeShapes Go.WideShapes Go.ChangeAt Go.RowKit
set_option linter.unusedVariables false

def i4s (l : List M.I) : List Value := l.flatMap fun i => [.int .u16 i.1, .int .u8 i.2.1, .int .u8 i.2.2.1, .int .u32 i.2.2.2]
theorem i4s_snoc (l : List M.I) (i : M.I) : i4s (l ++ [i]) = i4s l ++ [.int .u16 i.1, .int .u8 i.2.1, .int .u8 i.2.2.1, .int .u32 i.2.2.2] := by simp [i4s]

theorem at_extract (s : ByteArray) (p q i : Nat) (h : p + i < q) (hq : q ≤ s.size) : M.at_ (s.extract p q) i = M.at_ s (p + i) := by
  unfold M.at_
  congr 2
  rw [List.getD_eq_getElem?_getD, List.getD_eq_getElem?_getD]
  congr 1
  have e : (s.extract p q).data = s.data.extract p q := ByteArray.data_extract
  rw [e, Array.getElem?_toList, Array.getElem?_toList, Array.getElem?_extract, if_pos (by have : s.data.size = s.size := rfl; omega)]
theorem rd_extract (s : ByteArray) (p : Nat) (h : p + 8 ≤ s.size) : M.rd (s.extract p (p + 8)) 0 = M.rd s p := by
  unfold M.rd
  rw [at_extract s p (p + 8) 0 (by omega) h, at_extract s p (p + 8) (0 + 1) (by omega) h, at_extract s p (p + 8) (0 + 2) (by omega) h, at_extract s p (p + 8) (0 + 3) (by omega) h,
    at_extract s p (p + 8) (0 + 4) (by omega) h, at_extract s p (p + 8) (0 + 5) (by omega) h, at_extract s p (p + 8) (0 + 6) (by omega) h, at_extract s p (p + 8) (0 + 7) (by omega) h]
  simp
theorem own_below {w w' : World} {base : Nat} {e : TypeId} {size : Nat} {v : Value} {n : Nat} {xs : List Value} (h : w.ownsRow base e size v n xs) (hb : Below w.heap.size w w') : w'.ownsRow base e size v n xs := by
  refine ⟨h.1, ?_⟩
  rcases h.2 with h' | ⟨g, cap, cur, h1, h2, h3, h4⟩
  · exact .inl h'
  · refine .inr ⟨g, cap, cur, h1, h2, ?_, h4⟩
    have hlt : g < w.heap.size := by
      rcases Nat.lt_or_ge g w.heap.size with a | a
      · exact a
      · rw [Array.getElem?_eq_none a] at h3; cases h3
    rw [hb.block g hlt]; exact h3
theorem news1 (w : World) (cs : Array Value) {t : TypeId} {l : List Value} (h : cs.toList = l) :
    ∀ (j : Nat) (u : Value), l[j]? = some u → (w.alloc (Obj.cells cs t)).cell? ((⟨w.heap.size, 0, none⟩ : Addr).add j) = some u := by
  subst h
  exact World.news_of_block (fr := (0, 0)) (t := t) (heap_alloc_new w (Obj.cells cs t))

end Go.Proofs.Ytfmlefadifpocaa.B
namespace Go.Proofs.Ytfmlefadifpocaa.B
open Go.ChangeShapes Go.WideShapes Go.ChangeAt Go.RowKit
set_option linter.unusedVariables false

def i0 : M.I := (277, 2, 3, 67305985)
theorem ok0 : M.okI (277, 2, 3, 67305985) := by unfold M.okI; simp only; omega
theorem str0 : M.str (M.by8 (277, 2, 3, 67305985)) = { data := #[21, 1, 2, 3, 1, 2, 3, 4] } := by rfl

/-- A row that was built lies. -/
theorem lies_of_own {w : World} {base g n cap : Nat} {l : List M.I} (h : w.ownsRow base 38 4 (.slice (some ⟨g, 0, none⟩) n cap) n (i4s l)) (hn : l.length = n) : Lies w (some ⟨g, 0, none⟩) l := by
  rcases Nat.eq_zero_or_pos n with h0 | h0
  · left; exact List.eq_nil_of_length_eq_zero (by omega)
  · obtain ⟨g', cap', e, hb, hlt⟩ := h.form h0
    cases e
    refine .inr ⟨g, 0, rfl, hlt, fun j hj => ?_⟩
    have hc : ∀ q, q < 4 → w.cell? ⟨g, 0 + j * 4 + q, none⟩ = [Value.int .u16 l[j].1, .int .u8 l[j].2.1, .int .u8 l[j].2.2.1, .int .u32 l[j].2.2.2][q]? := fun q hq => by
      have e1 := h.cellAt (j * 4 + q) (by rw [← hn]; omega)
      rw [Nat.zero_add, e1]
      have : ∀ (l : List M.I) (j q : Nat) (hj : j < l.length), q < 4 → (i4s l)[j * 4 + q]? = [Value.int .u16 l[j].1, .int .u8 l[j].2.1, .int .u8 l[j].2.2.1, .int .u32 l[j].2.2.2][q]? := by
        intro l
        induction l with
        | nil => intro j q hj; simp at hj
        | cons a l ih =>
          intro j q hj hq
          rw [show i4s (a :: l) = [Value.int .u16 a.1, .int .u8 a.2.1, .int .u8 a.2.2.1, .int .u32 a.2.2.2] ++ i4s l from rfl]
          cases j with
          | zero => rw [List.getElem?_append_left (by simp; omega)]; simp
          | succ j => rw [List.getElem?_append_right (by simp; omega), show (j + 1) * 4 + q - [Value.int .u16 a.1, .int .u8 a.2.1, .int .u8 a.2.2.1, .int .u32 a.2.2.2].length = j * 4 + q from by simp; omega, ih j q (by simpa using hj) hq]; simp
      exact this l j q hj hq
    exact ⟨by simpa using hc 0 (by omega), by simpa using hc 1 (by omega), by simpa using hc 2 (by omega), by simpa using hc 3 (by omega)⟩

theorem make4097 : ∃ cs : Array Value, ∀ W : World, (Instr.makeSlice 22 (.int .i64 4097) (.int .i64 4097)).run Try.prog W = .ok (.slice (some ⟨W.heap.size, 0, none⟩) 4097 4097) (W.alloc (.cells cs 38)) := by
  obtain ⟨i0, hi, hz0, hz1, hz2⟩ := info_parts info39
  refine ⟨madeCells #[.int .u16 0, .int .u8 0, .int .u8 0, .int .u32 0] (4097 * 4), fun W => ?_⟩
  have := run_make (P := Try.prog) W 22 38 i0 _ Try.underlying22 hi hz0 .i64 .i64 4097 4097 (by omega) (by omega) (by rw [hz2]; omega) (by omega)
  rw [this, hz1]; rfl

theorem rd0 : M.rdl (M.str (M.pr [(277, 2, 3, 67305985), (277, 2, 3, 67305985)])) 2 = [(277, 2, 3, 67305985), (277, 2, 3, 67305985)] := by rfl

theorem rd2 {S : ByteArray} (h : S = M.str (M.by8 (277, 2, 3, 67305985))) : M.rdl (S ++ S) 2 = [(277, 2, 3, 67305985), (277, 2, 3, 67305985)] := by
  subst h; rw [M.str_append]; exact rd0
theorem pr2 {S : ByteArray} (h : S = M.str (M.by8 (277, 2, 3, 67305985))) : M.str (M.pr [(277, 2, 3, 67305985), (277, 2, 3, 67305985)]) = S ++ S := by
  subst h; rw [M.str_append]; rfl
theorem below_drawn {B : Nat} {a w : World} (h : Below B a w) (n : Nat) : Below B a (w.drewN n) := ⟨h.os, h.tape, h.output, h.size, h.block⟩
theorem lies_new2 (w : World) (c t f k : Int) : Lies (w.alloc (.cells #[.int .u16 c, .int .u8 t, .int .u8 f, .int .u32 k, .int .u16 c, .int .u8 t, .int .u8 f, .int .u32 k] 38)) (some ⟨w.heap.size, 0, none⟩) [(c, t, f, k), (c, t, f, k)] :=
  lies_of_own (n := 2) (cap := 2) (World.ownsRow_lit (base := w.heap.size) (e := 38) (size := 4) w #[.int .u16 c, .int .u8 t, .int .u8 f, .int .u32 k, .int .u16 c, .int .u8 t, .int .u8 f, .int .u32 k] 2 (Nat.le_refl _) (by unfold maxLen; omega) rfl) rfl
theorem bkeep {W w' : World} (h : Below W.heap.size W w') : (∀ b o, b < W.heap.size → w'.cell? ⟨b, o, none⟩ = W.cell? ⟨b, o, none⟩) ∧ Below W.heap.size W w' :=
  ⟨fun b o hb => h.cell (p := ⟨b, o, none⟩) hb, h⟩

end Go.Proofs.Ytfmlefadifpocaa.B
namespace Go.Proofs.Ytfmlefadifpocaa.B
open Go.ChangeShapes Go.WideShapes Go.ChangeAt Go.RowKit

end Go.Proofs.Ytfmlefadifpocaa.B
namespace Go.Proofs.Ytfmlefadifpocaa.B
open Go.ChangeShapes Go.WideShapes Go.ChangeAt Go.RowKit

theorem i4s_len (l : List M.I) : (i4s l).length = l.length * 4 := by
  induction l with
  | nil => rfl
  | cons a l ih => rw [show i4s (a :: l) = [Value.int .u16 a.1, .int .u8 a.2.1, .int .u8 a.2.2.1, .int .u32 a.2.2.2] ++ i4s l from rfl, List.length_append, ih, List.length_cons]; simp; omega
theorem i4s_append (l m : List M.I) : i4s (l ++ m) = i4s l ++ i4s m := by simp [i4s]
theorem i4s_get (l : List M.I) : ∀ (j q : Nat) (hj : j < l.length), q < 4 → (i4s l)[j * 4 + q]? = [Value.int .u16 l[j].1, .int .u8 l[j].2.1, .int .u8 l[j].2.2.1, .int .u32 l[j].2.2.2][q]? := by
  induction l with
  | nil => intro j q hj; simp at hj
  | cons a l ih =>
    intro j q hj hq
    rw [show i4s (a :: l) = [Value.int .u16 a.1, .int .u8 a.2.1, .int .u8 a.2.2.1, .int .u32 a.2.2.2] ++ i4s l from rfl]
    cases j with
    | zero => rw [List.getElem?_append_left (by simp; omega)]; simp
    | succ j => rw [List.getElem?_append_right (by simp; omega), show (j + 1) * 4 + q - [Value.int .u16 a.1, .int .u8 a.2.1, .int .u8 a.2.2.1, .int .u32 a.2.2.2].length = j * 4 + q from by simp; omega, ih j q (by simpa using hj) hq]; simp
theorem i4s_one (l : List M.I) : ∀ u ∈ i4s l, u.oneCell' = true := by
  intro u hu
  obtain ⟨i, _, hi⟩ := List.mem_flatMap.1 hu
  simp at hi
  rcases hi with rfl | rfl | rfl | rfl <;> rfl
theorem lies_cells {w : World} {b o : Nat} {l : List M.I} (h : Lies w (some ⟨b, o, none⟩) l) : ∀ (j : Nat) (u : Value), (i4s l)[j]? = some u → w.cell? ((⟨b, o, none⟩ : Addr).add j) = some u := by
  intro j u hu
  have hj : j < (i4s l).length := (List.getElem?_eq_some_iff.1 hu).1
  rw [i4s_len] at hj
  rcases h with h | ⟨b', o', e, _, h⟩
  · subst h; simp at hj
  · cases e
    obtain ⟨h0, h1, h2, h3⟩ := h (j / 4) (by omega)
    have hg := i4s_get l (j / 4) (j % 4) (by omega) (by omega)
    rw [show j / 4 * 4 + j % 4 = j from by omega, hu] at hg
    rw [add_plain]
    have hr : j % 4 = 0 ∨ j % 4 = 1 ∨ j % 4 = 2 ∨ j % 4 = 3 := by omega
    rcases hr with r | r | r | r <;> rw [r] at hg <;> simp at hg <;> subst hg
    · rw [show o + j = o + j / 4 * 4 from by omega]; exact h0
    · rw [show o + j = o + j / 4 * 4 + 1 from by omega]; exact h1
    · rw [show o + j = o + j / 4 * 4 + 2 from by omega]; exact h2
    · rw [show o + j = o + j / 4 * 4 + 3 from by omega]; exact h3
theorem own_empty (w : World) : (w.alloc (.cells #[] 38)).ownsRow w.heap.size 38 4 (.slice (some ⟨w.heap.size, 0, none⟩) 0 0) 0 [] :=
  World.ownsRow_lit (base := w.heap.size) (e := 38) (size := 4) w #[] 0 (Nat.le_refl _) (by unfold maxLen; omega) rfl

/-- An append that stands behind a guard that lets it by. -/
theorem wpList_append_g {P : Program} {w : World} {ops : Array Oper} {rest : List Oper} {o : Oper} {a : Act} {Q : Exit → Act → World → Prop} (hw : Region.wanted o (yielded ops a.tmps) = true) (s x : Operand) (t : TypeId)
    (ho : o.op = .call { callee := .builtin .append, args := #[s, x], argTypes := #[t, t] })
    (base : Nat) (e : TypeId) (i : TypeInfo) (z : Value) (size bytes : Nat) (ht : P.underlying t = some (.slice e)) (hi : P.info? e = some i) (hz : i.zero = some z)
    (hsize : i.size = size) (hby : i.bytes = bytes) (hzs : z.cells.size = size) (hsz : 0 < size)
    (v : Value) (n : Nat) (xs : List Value) (hs : a.eval s = v) (hown : w.ownsRow base e size v n xs)
    (ad : Addr) (m c : Nat) (news : List Value) (hx : a.eval x = .slice (some ad) m c) (hl : news.length = m * size) (hnews : ∀ j u, news[j]? = some u → w.cell? (ad.add j) = some u) (h1 : ∀ u ∈ news, u.oneCell' = true)
    (hm : 0 < m) (h63 : n + m ≤ maxLen) (hbytes : (n + m) * bytes ≤ 140737488355328) (hbase : base ≤ w.heap.size) (H : Nat) (hH : w.heap.size = H)
    (h : ∀ g cap w', w'.ownsRow base e size (.slice (some ⟨g, 0, none⟩) (n + m) cap) (n + m) (xs ++ news) → w.grownBy w' v.ownBlock → (v.ownBlock = some g ∨ g = H) → g < w'.heap.size → wpList P ops Q rest (a.put o.dst (.slice (some ⟨g, 0, none⟩) (n + m) cap)) w') : wpList P ops Q (o :: rest) a w :=
  wpList_step fun K hK => by
    rw [if_pos hw]
    exact wp_append_lies w s x t ho base e i z size bytes ht hi hz hsize hby hzs hsz v n xs hs hown ad m c news hx hl hnews h1 hm h63 hbytes hbase H hH fun g cap w' h2 h3 h4 h5 => hK _ _ (h g cap w' h2 h3 h4 h5)

theorem list_size {H : Type} {enc : TypeId × Value → H} {W : World} {base : Nat} {spare : Nat → Bool} {held : Bool} {a : Option Addr} {n cap : Nat} {d : DataW H} {p : List MemPlace}
    (h : DataW.Trod enc Try.prog W base spare held 22 (.slice a n cap) d p) : n = 0 ∨ ∃ E S, d = .slice E S ∧ E.length = n := by
  obtain ⟨fuel, hf⟩ := h
  rcases Go.Deep.open_slice Try.underlying22 hf with ⟨h0, _⟩ | ⟨a', len, cap', m, n', D, Pl, h0, hb, hl, hm, hmm, hx, each⟩
  · simp [Value.cells] at h0; exact .inl h0.2.1
  · simp [Value.cells] at h0
    simp only [Prod.mk.injEq] at hx
    exact .inr ⟨_, _, hx.1, by simp [h0.2.1]⟩
theorem bytes39 : Try.prog.bytesOf 38 = 8 := by kernel_rfl
end Go.Proofs.Ytfmlefadifpocaa.B
