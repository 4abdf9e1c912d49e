/-
  The program's three closures of layer 11 that tell a node's value, words, size, as walks over the Go text; beginnings of rows.
-/
import Derived.Test.YtapbeffjnpgglabTerCodC
import Derived.Test.YtapbeffjnpgglabT2
import Derived.Test.YtapbeffjnpgglabT3
namespace Go.Proofs.Ytapbeffjnpgglab.TM
set_option linter.unusedVariables false
theorem nat0_take {l : List N} {m i : Nat} (h : i < m) (hm : m ≤ l.length) : nat0 (l.take m) i = nat0 l i := by
  rw [nat0_eq (by rw [List.length_take]; omega), nat0_eq (by omega), List.getElem_take]
theorem row_take {l : List N} (hl : Row l) {m : Nat} (hm : m ≤ l.length) : Row (l.take m) := by
  have hlen : (l.take m).length = m := by rw [List.length_take]; omega
  refine ⟨by have := hl.1; omega, fun i hi => ?_⟩
  rw [nat0_take (by omega) hm]; exact hl.2 i (by omega)
theorem valsF_take {l : List N} {m : Nat} (hm : m ≤ l.length) (r : List Int) : ∀ i, i ≤ m → valsF (l.take m) r i = valsF l r i := by
  intro i
  induction i with
  | zero => intro _; rfl
  | succ i ih => intro hi; rw [valsF, valsF, ih (by omega), nat0_take (by omega) hm]
theorem val_take {l : List N} {m i : Nat} (r : List Int) (h : i < m) (hm : m ≤ l.length) : val (l.take m) r i = val l r i := by
  unfold val; rw [valsF_take hm r (i + 1) (by omega)]
theorem szF_take {l : List N} {m : Nat} (hm : m ≤ l.length) : ∀ i, i ≤ m → szF (l.take m) i = szF l i := by
  intro i
  induction i with
  | zero => intro _; rfl
  | succ i ih => intro hi; rw [szF, szF, ih (by omega), nat0_take (by omega) hm]
theorem sz_take {l : List N} {m i : Nat} (h : i < m) (hm : m ≤ l.length) : sz (l.take m) i = sz l i := by
  unfold sz; rw [szF_take hm (i + 1) (by omega)]
theorem parts_if {x : N} {i : Nat} (hm : may x i = true) (v : Nat → Nat) : ((parts x).map v).sum = (if x.1 ≤ 2 then 0 else v x.2.1.toNat) + (if x.1 ≤ 2 ∨ x.1 = 384 then 0 else v x.2.2.1.toNat) := by
  unfold parts
  by_cases h : x.1 ≤ 2
  · rw [if_pos h, if_pos h, if_pos (.inl h)]; rfl
  · by_cases h3 : x.1 = 384
    · rw [if_neg h, if_pos h3, if_neg h, if_pos (.inr h3)]; simp
    · rw [if_neg h, if_neg h3, if_neg h, if_neg (by omega)]; simp
theorem sz_step {l : List N} (hl : Row l) {k : Nat} (hk : k < l.length) : sz l k = min (1 + ((if l[k].1 ≤ 2 then 0 else sz l l[k].2.1.toNat) + (if l[k].1 ≤ 2 ∨ l[k].1 = 384 then 0 else sz l l[k].2.2.1.toNat))) 1125899906842624 := by
  have hm := hl.2 k hk
  rw [sz_row hl hk]
  unfold szN
  rw [nat0_eq hk] at hm ⊢
  rw [parts_if hm]
theorem inT_trans {l : List N} (hl : Row l) {k p : Nat} (hk : k < l.length) (hp : p ∈ parts (nat0 l k)) : ∀ (d i : Nat), l.length ≤ i + d → inT l p i = true → inT l k i = true := by
  intro d
  induction d with
  | zero =>
    intro i h hi
    rcases inT_iff.1 hi with h1 | ⟨q, h1, h2, _⟩
    · subst h1; exact inT_part hl hk (inT_self l k) hp
    · omega
  | succ d ih =>
    intro i h hi
    rcases inT_iff.1 hi with h1 | ⟨q, h1, h2, h3, h4⟩
    · subst h1; exact inT_part hl hk (inT_self l k) hp
    · exact inT_iff.2 (.inr ⟨q, h1, h2, ih q (by omega) h3, h4⟩)
theorem uses_bit (l : List N) (t w : Nat) : (uses l t).testBit w = true ↔ ∃ j, j < l.length ∧ inT l t j = true ∧ (nat0 l j).1 = 2 ∧ (nat0 l j).2.2.2.toNat = w := usesK_bit l t w l.length
theorem uses_word {l : List N} (hl : Row l) {k : Nat} (hk : k < l.length) (h : l[k].1 = 2) : uses l k = 2 ^ l[k].2.2.2.toNat := by
  apply Nat.eq_of_testBit_eq
  intro w
  rw [Bool.eq_iff_iff, uses_bit, Nat.testBit_two_pow, decide_eq_true_eq]
  constructor
  · rintro ⟨j, h1, h2, h3, h4⟩
    rcases inT_down hl hk (l.length - j) j (by omega) h2 with e | ⟨p, hp, _⟩
    · subst e; rw [nat0_eq hk] at h4; exact h4
    · rw [nat0_eq hk] at hp
      unfold parts at hp
      rw [if_pos (by omega)] at hp; cases hp
  · intro e
    exact ⟨k, hk, inT_self l k, by rw [nat0_eq hk]; exact h, by rw [nat0_eq hk]; exact e⟩
theorem uses_part {l : List N} (hl : Row l) {k : Nat} (hk : k < l.length) (h : l[k].1 ≠ 2) : uses l k = (if l[k].1 ≤ 2 then 0 else uses l l[k].2.1.toNat) ||| (if l[k].1 ≤ 2 ∨ l[k].1 = 384 then 0 else uses l l[k].2.2.1.toNat) := by
  apply Nat.eq_of_testBit_eq
  intro w
  have key : (uses l k).testBit w = true ↔ ∃ p ∈ parts l[k], (uses l p).testBit w = true := by
    rw [uses_bit]
    constructor
    · rintro ⟨j, h1, h2, h3, h4⟩
      rcases inT_down hl hk (l.length - j) j (by omega) h2 with e | ⟨p, hp, h5⟩
      · subst e; rw [nat0_eq hk] at h3; exact absurd h3 h
      · rw [nat0_eq hk] at hp
        exact ⟨p, hp, (uses_bit l p w).2 ⟨j, h1, h5, h3, h4⟩⟩
    · rintro ⟨p, hp, h5⟩
      obtain ⟨j, h1, h2, h3, h4⟩ := (uses_bit l p w).1 h5
      refine ⟨j, h1, ?_, h3, h4⟩
      exact inT_trans hl hk (by rw [nat0_eq hk]; exact hp) (l.length - j) j (by omega) h2
  have hm := hl.2 k hk
  rw [Bool.eq_iff_iff, key, Nat.testBit_or, Bool.or_eq_true]
  unfold parts
  by_cases h2 : l[k].1 ≤ 2
  · rw [if_pos h2, if_pos h2, if_pos (.inl h2)]; simp
  · by_cases h3 : l[k].1 = 384
    · rw [if_neg h2, if_pos h3, if_neg h2, if_pos (.inr h3)]; simp
    · rw [if_neg h2, if_neg h3, if_neg h2, if_neg (by omega)]; simp
end Go.Proofs.Ytapbeffjnpgglab.TM
namespace Go.Proofs.Ytapbeffjnpgglab.TB
open Go.ChangeShapes Go.WideShapes Go.ChangeAt Go.RowKit
open Go.Sort hiding Below
set_option linter.unusedVariables false
set_option maxRecDepth 100000

theorem LiesN.take {W : World} {A : Option Addr} {L : List TM.N} (h : LiesN W A L) (m : Nat) : LiesN W A (L.take m) := by
  rcases h with h | ⟨b, o, e, h1, h2⟩
  · exact .inl (by rw [h]; simp)
  · refine .inr ⟨b, o, e, h1, fun j hj => ?_⟩
    have hj' : j < L.length := by rw [List.length_take] at hj; omega
    rw [List.getElem_take]; exact h2 j hj'

end Go.Proofs.Ytapbeffjnpgglab.TB
