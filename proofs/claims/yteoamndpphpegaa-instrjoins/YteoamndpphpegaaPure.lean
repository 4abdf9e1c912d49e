/-
  A law on regions whose order is open: operations that yield one value in whatever world may be taken first, in the text's order; what is left comes up one at a time.
-/
import Derived.StillTail
import Derived.StillTactics
import Derived.WalkKit
import Derived.Deep.RegionHeld3
namespace Go.Proofs.Yteoamndpphpegaa.B
open Go

section
variable {P : Program} {ops : Array Oper} {md : Region.Mode} {Q : Exit → Act → World → Prop}

def wpPure (P : Program) (ops : Array Oper) (L : Act → Prop) : List Oper → Act → Prop
  | [], a => L a
  | o :: rest, a => ∃ v, Yields P ops o v a ∧ wpPure P ops L rest (a.put o.dst v)

theorem wpPure_nil {L : Act → Prop} {a : Act} (h : L a) : wpPure P ops L [] a := h
theorem wpPure_cons {L : Act → Prop} {a : Act} {o : Oper} {rest : List Oper} {v : Value} (hy : Yields P ops o v a) (h : wpPure P ops L rest (a.put o.dst v)) : wpPure P ops L (o :: rest) a := ⟨v, hy, h⟩

def pureTailB (md : Region.Mode) (ops : Array Oper) (n : Nat) : Bool :=
  Region.noSelect ops && decide (n ≤ ops.size) && Region.lexHead md ops (ops.size - n) n 0 (Array.replicate ops.size false)

theorem wpAny_pure {g : Nat} {L : Act → Prop} {w : World} (hs : Region.noSelect ops = true) (hQ : ∀ c a d v w, Q (.panic c) (a.put d v) w → Q (.panic c) a w) :
    ∀ (l : List Oper) (k : Nat) (listed : Array Bool) (a : Act), (∀ j, j < l.length → l[j]? = ops[k + j]?) → Region.lexHead md ops g l.length k listed = true → wpPure P ops L l a →
    (∀ listed a', Region.seqB md ops g (k + l.length) listed = true → L a' → wpAny P md ops Q g listed a' w) → wpAny P md ops Q (l.length + g) listed a w
  | [], k, listed, a, _, hB, h, hL => by
    simp only [List.length_nil, Region.lexHead] at hB
    simp only [List.length_nil, Nat.zero_add]
    exact hL listed a (by simpa using hB) h
  | o :: l, k, listed, a, hl, hB, h, hL => by
    have h0 : ops[k]? = some o := by simpa using (hl 0 (by simp)).symm
    simp only [List.length_cons, Region.lexHead, Bool.and_eq_true] at hB
    obtain ⟨⟨hr, hf⟩, hB'⟩ := hB
    obtain ⟨v, hy, hK⟩ := h
    have := wpAny_pure hs hQ l (k + 1) (listed.setIfInBounds k true) (a.put o.dst v) (fun j hj => by have := hl (j + 1) (by simp; omega); simpa [Nat.add_assoc, Nat.add_comm 1 j] using this) hB' hK
      (fun listed' a' h1 h2 => hL listed' a' (by rw [List.length_cons, show k + (l.length + 1) = k + 1 + l.length from by omega]; exact h1) h2)
    rw [List.length_cons, show l.length + 1 + g = (l.length + g) + 1 from by omega]
    exact wpAny_take h0 hs hf hr (fun c a w => hQ c a _ _ w) hy this

theorem wp_region_pure_tail {id : Nat} {a : Act} {w : World} {l : List Oper} (n : Nat) (hm : P.follows .mixedOrders = true) (hB : pureTailB .any l.toArray n = true)
    (h : wpPure P l.toArray (fun a' => wpList P l.toArray (NoPanic Q) (l.drop n) a' w.drew) (l.take n) a) : (Code.region id l.toArray true).wp P Q a w := by
  simp only [pureTailB, Bool.and_eq_true, decide_eq_true_eq] at hB
  obtain ⟨⟨hsel, hn⟩, hlex⟩ := hB
  have hn' : n ≤ l.length := by simpa using hn
  have htl : (l.take n).length = n := by simp; omega
  have hdl : (l.drop n).length = l.toArray.size - n := by simp
  refine wp_region_noPanic (wp_region_any hm ?_)
  have H := wpAny_pure (md := .any) (Q := NoPanic Q) (w := w.drew) (g := l.toArray.size - n) hsel (fun _ _ _ _ _ h => h) (l.take n) 0 (Array.replicate l.toArray.size false) a (fun j hj => by
    have hj' : j < n := by rw [htl] at hj; exact hj
    simp [hj']) (by rw [htl]; exact hlex) h (fun listed a' h1 h2 => by
      rw [htl, Nat.zero_add] at h1
      have := wpAny_of_seq (md := .any) (Q' := NoPanic Q) (l.drop n) n listed a' w.drew (fun j => by simp [List.getElem?_drop]) (by rw [hdl]; exact h1) h2
      rwa [hdl] at this)
  rw [htl, show n + (l.toArray.size - n) = l.toArray.size by simp; omega] at H
  exact H
end
end Go.Proofs.Yteoamndpphpegaa.B
