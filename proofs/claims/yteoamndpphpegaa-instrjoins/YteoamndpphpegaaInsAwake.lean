/-
  The few answers that the document fixes, as a walk over the Go text: they are as it says.
-/
import Derived.Test.YteoamndpphpegaaInsRefRead
import Derived.Deep.RegionHeldLaw
namespace Go.Proofs.Yteoamndpphpegaa.B
open Go.ChangeShapes Go.WideShapes Go.ChangeAt Go.RowKit
set_option linter.unusedVariables false

def i0 : M.I := (277, 2, 3, 67305985)
theorem ok0 : M.okI (277, 2, 3, 67305985) := by unfold M.okI; simp only; omega
theorem str0 : M.str (M.by8 (277, 2, 3, 67305985)) = { data := #[21, 1, 2, 3, 1, 2, 3, 4] } := by rfl

/-- A row that was built lies. -/
theorem lies_of_own {w : World} {base g n cap : Nat} {l : List M.I} (h : w.ownsRow base 39 4 (.slice (some ⟨g, 0, none⟩) n cap) n (i4s l)) (hn : l.length = n) : Lies w (some ⟨g, 0, none⟩) l := by
  rcases Nat.eq_zero_or_pos n with h0 | h0
  · left; exact List.eq_nil_of_length_eq_zero (by omega)
  · obtain ⟨g', cap', e, hb, hlt⟩ := h.form h0
    cases e
    refine .inr ⟨g, 0, rfl, hlt, fun j hj => ?_⟩
    have hc : ∀ q, q < 4 → w.cell? ⟨g, 0 + j * 4 + q, none⟩ = [Value.int .u16 l[j].1, .int .u8 l[j].2.1, .int .u8 l[j].2.2.1, .int .u32 l[j].2.2.2][q]? := fun q hq => by
      have e1 := h.cellAt (j * 4 + q) (by rw [← hn]; omega)
      rw [Nat.zero_add, e1]
      have : ∀ (l : List M.I) (j q : Nat) (hj : j < l.length), q < 4 → (i4s l)[j * 4 + q]? = [Value.int .u16 l[j].1, .int .u8 l[j].2.1, .int .u8 l[j].2.2.1, .int .u32 l[j].2.2.2][q]? := by
        intro l
        induction l with
        | nil => intro j q hj; simp at hj
        | cons a l ih =>
          intro j q hj hq
          rw [show i4s (a :: l) = [Value.int .u16 a.1, .int .u8 a.2.1, .int .u8 a.2.2.1, .int .u32 a.2.2.2] ++ i4s l from rfl]
          cases j with
          | zero => rw [List.getElem?_append_left (by simp; omega)]; simp
          | succ j => rw [List.getElem?_append_right (by simp; omega), show (j + 1) * 4 + q - [Value.int .u16 a.1, .int .u8 a.2.1, .int .u8 a.2.2.1, .int .u32 a.2.2.2].length = j * 4 + q from by simp; omega, ih j q (by simpa using hj) hq]; simp
      exact this l j q hj hq
    exact ⟨by simpa using hc 0 (by omega), by simpa using hc 1 (by omega), by simpa using hc 2 (by omega), by simpa using hc 3 (by omega)⟩

theorem make4097 : ∃ cs : Array Value, ∀ W : World, (Instr.makeSlice 23 (.int .i64 4097) (.int .i64 4097)).run Try.prog W = .ok (.slice (some ⟨W.heap.size, 0, none⟩) 4097 4097) (W.alloc (.cells cs 39)) := by
  obtain ⟨i0, hi, hz0, hz1, hz2⟩ := info_parts info39
  refine ⟨madeCells #[.int .u16 0, .int .u8 0, .int .u8 0, .int .u32 0] (4097 * 4), fun W => ?_⟩
  have := run_make (P := Try.prog) W 23 39 i0 _ Try.underlying23 hi hz0 .i64 .i64 4097 4097 (by omega) (by omega) (by rw [hz2]; omega) (by omega)
  rw [this, hz1]; rfl

theorem rd0 : M.rdl (M.str (M.pr [(277, 2, 3, 67305985), (277, 2, 3, 67305985)])) 2 = [(277, 2, 3, 67305985), (277, 2, 3, 67305985)] := by rfl

theorem rd2 {S : ByteArray} (h : S = M.str (M.by8 (277, 2, 3, 67305985))) : M.rdl (S ++ S) 2 = [(277, 2, 3, 67305985), (277, 2, 3, 67305985)] := by
  subst h; rw [M.str_append]; exact rd0
theorem pr2 {S : ByteArray} (h : S = M.str (M.by8 (277, 2, 3, 67305985))) : M.str (M.pr [(277, 2, 3, 67305985), (277, 2, 3, 67305985)]) = S ++ S := by
  subst h; rw [M.str_append]; rfl
theorem read2 {S : ByteArray} (h : S = M.str (M.by8 (277, 2, 3, 67305985))) (w : World) :
    Calls Try.prog 9 #[.string (S ++ S)] w fun e w' => ∃ g cap, e = .returned (.tuple #[.slice (some ⟨g, 0, none⟩) 2 cap, .int .i64 0]) ∧ Lies w' (some ⟨g, 0, none⟩) [(277, 2, 3, 67305985), (277, 2, 3, 67305985)] ∧ w.heap.size ≤ g ∧ g < w'.heap.size ∧ Below w.heap.size w w' := by
  have hs : (S ++ S).size = 8 * 2 := by rw [ByteArray.size_append, h, M.str_size, M.by8_len]
  refine (read_all (S ++ S) 2 w hs (by omega) (by omega)).mono ?_
  rintro e w' ⟨g, cap, he, hown, hB⟩
  rw [rd2 h] at hown
  obtain ⟨g', cap', e', h1, h2⟩ := hown.form (by omega)
  cases e'
  exact ⟨g, cap, he, lies_of_own hown rfl, h1, h2, hB⟩
theorem readx {S : ByteArray} (h : S = M.str (M.by8 (277, 2, 3, 67305985))) (w : World) :
    Calls Try.prog 9 #[.string (S ++ { data := #[120] })] w fun e w' => e = .returned (.tuple #[.slice none 0 0, .int .i64 4]) ∧ w' = w := by
  have hs : (S ++ { data := #[120] }).size = 9 := by rw [ByteArray.size_append, h, M.str_size, M.by8_len]; rfl
  exact read_broken _ w (by omega) (by omega) (by omega)
theorem print2 {S : ByteArray} (h : S = M.str (M.by8 (277, 2, 3, 67305985))) (g cap : Nat) (w : World) (hl : Lies w (some ⟨g, 0, none⟩) [(277, 2, 3, 67305985), (277, 2, 3, 67305985)]) :
    Calls Try.prog 12 #[.slice (some ⟨g, 0, none⟩) 2 cap] w fun e w' => e = .returned (.tuple #[.string (S ++ S), .int .i64 0]) ∧ Below w.heap.size w w' := by
  have := print_any (some ⟨g, 0, none⟩) [(277, 2, 3, 67305985), (277, 2, 3, 67305985)] cap w hl (by intro i hi; simp at hi; subst hi; exact ok0) (by decide) (by decide)
  rw [pr2 h] at this
  exact this
theorem one0 {S : ByteArray} (h : S = M.str (M.by8 (277, 2, 3, 67305985))) (w : World) :
    Calls Try.prog 18 #[.agg #[.int .u16 277, .int .u8 2, .int .u8 3, .int .u32 67305985]] w fun e w' => e = .returned (.string S) ∧ Below w.heap.size w w' := by
  rw [h]; exact one_any 277 2 3 67305985 ok0 w

theorem below_drawn {B : Nat} {a w : World} (h : Below B a w) (n : Nat) : Below B a (w.drewN n) := ⟨h.os, h.tape, h.output, h.size, h.block⟩
theorem lies_new2 (w : World) (c t f k : Int) : Lies (w.alloc (.cells #[.int .u16 c, .int .u8 t, .int .u8 f, .int .u32 k, .int .u16 c, .int .u8 t, .int .u8 f, .int .u32 k] 39)) (some ⟨w.heap.size, 0, none⟩) [(c, t, f, k), (c, t, f, k)] :=
  lies_of_own (n := 2) (cap := 2) (World.ownsRow_lit (base := w.heap.size) (e := 39) (size := 4) w #[.int .u16 c, .int .u8 t, .int .u8 f, .int .u32 k, .int .u16 c, .int .u8 t, .int .u8 f, .int .u32 k] 2 (Nat.le_refl _) (by unfold maxLen; omega) rfl) rfl
theorem bkeep {W w' : World} (h : Below W.heap.size W w') : (∀ b o, b < W.heap.size → w'.cell? ⟨b, o, none⟩ = W.cell? ⟨b, o, none⟩) ∧ Below W.heap.size W w' :=
  ⟨fun b o hb => h.cell (p := ⟨b, o, none⟩) hb, h⟩

set_option maxHeartbeats 1600000 in
set_option maxRecDepth 1000000 in
theorem awake_any (w : World) : Calls Try.prog 8 #[] w fun e w' => e = .returned (.bool true) ∧ Below w.heap.size w w' := by
  obtain ⟨cs, hmk⟩ := make4097
  obtain ⟨S, hS⟩ : ∃ S, S = M.str (M.by8 (277, 2, 3, 67305985)) := ⟨_, rfl⟩
  have HS : Hid (S = M.str (M.by8 (277, 2, 3, 67305985))) := hS
  have hs8 : S.size = 8 := by rw [hS, M.str_size, M.by8_len]
  clear hS
  go_enter Try.func8, Try.ntmps8
  go_wp2_with fail
  refine (one0 HS.out _).mono ?_
  rintro e w1 ⟨rfl, hB1⟩
  have hsz1 := hB1.size
  have c0 := hB1.cell (p := ⟨w.heap.size, 0, none⟩) (by simp)
  have c1 := hB1.cell (p := ⟨w.heap.size, 1, none⟩) (by simp)
  have c2 := hB1.cell (p := ⟨w.heap.size, 2, none⟩) (by simp)
  have c3 := hB1.cell (p := ⟨w.heap.size, 3, none⟩) (by simp)
  simp [go_sem] at hsz1 c0 c1 c2 c3
  have hbw : Below w.heap.size w w1 := ((Below.refl _ _).alloc (Nat.le_refl _) _).trans (hB1.mono (by simp))
  clear hB1
  go_wp2_with fail
  refine (read2 HS.out _).mono ?_
  rintro e w2 ⟨g, cap, rfl, hl, hg1, hg2, hB2⟩
  have hbw2 : Below w.heap.size w w2 := hbw.trans (hB2.mono hbw.size)
  have hsz2 := hB2.size
  have c0 := (hB2.cell (p := ⟨w.heap.size, 0, none⟩) (by simp; omega)).trans c0
  have c1 := (hB2.cell (p := ⟨w.heap.size, 1, none⟩) (by simp; omega)).trans c1
  have c2 := (hB2.cell (p := ⟨w.heap.size, 2, none⟩) (by simp; omega)).trans c2
  have c3 := (hB2.cell (p := ⟨w.heap.size, 3, none⟩) (by simp; omega)).trans c3
  clear hB2 hbw
  go_wp2_with fail
  refine (readx HS.out _).mono ?_
  rintro e w3 ⟨rfl, rfl⟩
  go_wp2_with fail
  refine (print_none _ _ _).mono ?_
  rintro e w4 ⟨rfl, rfl⟩
  go_wp2_with fail
  refine (print_long _ 4097 4097 _ (by omega) (by omega)).mono ?_
  rintro e w5 ⟨rfl, rfl⟩
  go_wp2_with fail
  refine (print2 HS.out g cap _ (hl.below ((Below.refl _ _).alloc (Nat.le_refl _) _))).mono ?_
  rintro e w6 ⟨rfl, hB6⟩
  have hB6 : Below w4.heap.size w4 w6 := ((Below.refl _ _).alloc (Nat.le_refl _) _).trans (hB6.mono (by simp))
  have hl6 := hl.below hB6
  have hbw6 : Below w.heap.size w w6 := hbw2.trans (hB6.mono hbw2.size)
  have hsz6 := hB6.size
  have c0 := (hB6.cell (p := ⟨w.heap.size, 0, none⟩) (by simp; omega)).trans c0
  have c1 := (hB6.cell (p := ⟨w.heap.size, 1, none⟩) (by simp; omega)).trans c1
  have c2 := (hB6.cell (p := ⟨w.heap.size, 2, none⟩) (by simp; omega)).trans c2
  have c3 := (hB6.cell (p := ⟨w.heap.size, 3, none⟩) (by simp; omega)).trans c3
  have hz1 : w.heap.size < w6.heap.size := by omega
  have hz2 : g < w6.heap.size := by omega
  obtain ⟨l0, l1, l2, l3⟩ : LiesAt w6 g 0 1 (277, 2, 3, 67305985) := by
    rcases hl6 with h | ⟨b, o, e, _, h⟩
    · cases h
    · cases e; exact h 1 (by decide)
  simp only [Nat.zero_add, Nat.one_mul, Nat.reduceAdd] at l0 l1 l2 l3
  have HL : Hid (Lies w6 (some ⟨g, 0, none⟩) [(277, 2, 3, 67305985), (277, 2, 3, 67305985)]) := hl6
  clear hl hl6 hB6 hbw2 hg1 hg2 hsz1 hsz2 hsz6 hmk
  go_wp2_with fail
  have hst : (S.toList == [21, 1, 2, 3, 1, 2, 3, 4]) = true := by rw [HS.out, str0, ByteArray.toList_eq]; rfl
  have hg := guard39
  have hq := eql39
  go_region_held_law (fun w' => (∀ b o, b < w6.heap.size → w'.cell? ⟨b, o, none⟩ = w6.cell? ⟨b, o, none⟩) ∧ Below w6.heap.size w6 w')
    ((go_split_ands; refine bkeep ?_; first | exact (Below.refl _ _).drew | assumption | exact below_drawn (by assumption) _ | exact Below.trans (by assumption) (Below.mono (by assumption) (Below.size (by assumption))) | exact Below.alloc (by assumption) (Below.size (by assumption)) _))
    (first
      | (go_at_call 16; refine (class_any 277 2 3 67305985 ok0 _).mono ?_; rintro e w' ⟨rfl, hB⟩)
      | (go_at_call 17; refine (op_any 277 2 3 67305985 ok0 _).mono ?_; rintro e w' ⟨rfl, hB⟩)
      | (go_at_call 15; refine (fromx_any 277 2 3 67305985 ok0 _).mono ?_; rintro e w' ⟨rfl, hB⟩)
      | (go_at_call 14; refine (same_any (some ⟨g, 0, none⟩) _ [(277, 2, 3, 67305985), (277, 2, 3, 67305985)] [(277, 2, 3, 67305985), (277, 2, 3, 67305985)] cap 2 _ ?q1 ?q2 (by decide) (by decide)).mono ?_; (case q1 => (go_split_ands; exact HL.out.below (by assumption))); (case q2 => exact lies_new2 _ _ _ _ _); rintro e w' ⟨rfl, n, rfl⟩))
  go_split_ands
  have hfin : Below w.heap.size w _ := hbw6.trans (Below.mono (by assumption) hbw6.size)
  go_wp2
  go_ret
  exact ⟨rfl, hfin⟩
end Go.Proofs.Yteoamndpphpegaa.B
