/-
  A filter whose jumps go straight is a filter; the end as the reference reckons it.
-/
import Derived.Test.YtahaooghebmhnaaPruMath4
namespace Go.Proofs.Ytahaooghebmhnaa.M
set_option linter.unusedVariables false
set_option linter.unusedSectionVars false
theorem str_bare {l : List I} (hr : right l) (ok : ∀ x ∈ l, okI x) {w : Int} {j : Nat} (h : Bare (strL l) w j) : Bare l w j := by
  refine Bare.ind (P := fun j => Bare l w j) (fun _ => Bare.zero (len0 hr ok)) (fun i j hi _ ih hw hj _ => ?_) h
  have hil : i < l.length := by rw [strL_len] at hi; exact hi
  rw [← at0_eq hi, strL_at hil] at hw hj
  obtain ⟨hrt, b, rfl⟩ := mem_sel.1 hj
  rw [rets_code (strI_code l i)] at hrt
  rw [wr_code (strI_code l i) (fun h => strI_k h)] at hw
  obtain ⟨k, e⟩ := sel_str (l := l) b i
  rw [e]
  have hnx : sel b i (at0 l i) ∈ nxt i (at0 l i) := mem_sel.2 ⟨hrt, b, rfl⟩
  exact bare_ja hr ok k _ (Bare.step hil ih (by rw [← at0_eq hil]; exact hw) (by rw [← at0_eq hil]; exact hnx) (beh_lt hr ok hil (mem_beh.2 hnx)))
theorem str_right {l : List I} (hr : right l) (ok : ∀ x ∈ l, okI x) : right (strL l) := by
  obtain ⟨⟨h1, h2⟩, h3, h4, h5⟩ := (right_iff l).1 hr
  have hn := strL_len l
  refine (right_iff _).2 ⟨⟨by omega, by omega⟩, fun i hi => ?_, ?_, fun i hi => ?_⟩
  · have hil : i < l.length := by rw [hn] at hi; exact hi
    have hw := h3 i hil
    unfold wrong at hw ⊢
    rw [List.getElem?_eq_getElem hil] at hw
    rw [List.getElem?_eq_getElem hi]
    simp only [bne_eq_false_iff_eq] at hw ⊢
    rw [← at0_eq hil] at hw
    rw [← at0_eq hi]
    have hsel : rets (at0 l i) = false → ∀ b, sel b i (at0 (strL l) i) < l.length := fun hrt b => str_sel hr ok hil hrt b
    obtain ⟨b0, b1, b2, b3⟩ := at0_ok (strL_ok hr ok) i
    have hk : kind (at0 l i).1 ≠ 11 → (at0 (strL l) i).2.2.2 = (at0 l i).2.2.2 := fun h => by rw [strL_at hil, strI_k h]
    unfold loc at hw ⊢
    rw [strL_code, hn]
    by_cases k11 : kind (at0 l i).1 = 11
    · have hs := hsel (ja_rets hr ok (isJa_iff.2 k11)) true
      unfold sel at hs
      rw [strL_code, if_pos k11] at hs
      rw [if_neg (by omega), if_neg (by omega), if_neg (by omega), if_neg (by omega), if_pos k11, if_neg (by omega)]
    · by_cases k12 : kind (at0 l i).1 = 12
      · have hrt : rets (at0 l i) = false := by unfold rets; rw [k12]; rfl
        have hs1 := hsel hrt true
        have hs2 := hsel hrt false
        unfold sel at hs1 hs2
        rw [strL_code, if_neg k11, if_pos k12, if_pos rfl] at hs1
        rw [strL_code, if_neg k11, if_pos k12, if_neg (by simp)] at hs2
        rw [if_neg (by omega), if_neg (by omega), if_neg (by omega), if_neg (by omega), if_neg (by omega), if_pos k12, if_neg (by omega)]
      · rw [hk k11]
        rw [if_neg k11, if_neg k12] at hw ⊢
        exact hw
  · show rets (at0 (strL l) ((strL l).length - 1)) = true
    rw [hn, rets_code (strL_code l _)]
    exact h4
  · have hil : i < l.length := by rw [hn] at hi; exact hi
    have hw := h5 i hil
    unfold raw at hw ⊢
    rw [List.getElem?_eq_getElem hil] at hw
    rw [List.getElem?_eq_getElem hi]
    simp only at hw ⊢
    rw [← at0_eq hil] at hw
    rw [← at0_eq hi]
    have hrd : rdW (at0 (strL l) i) = rdW (at0 l i) := by unfold rdW; rw [strL_code]
    rw [hrd]
    cases hd : rdW (at0 l i) with
    | false => rfl
    | true =>
      rw [hd, Bool.true_and] at hw
      rw [Bool.true_and]
      have k11 : kind (at0 l i).1 ≠ 11 := by
        intro e
        unfold rdW at hd
        rw [e] at hd
        cases hd
      rw [strL_at hil, strI_k k11]
      cases hb : bare (strL l) (at0 l i).2.2.2 i with
      | false => rfl
      | true =>
        have : Bare l (at0 l i).2.2.2 i := str_bare hr ok hb
        unfold Bare at this
        rw [hw] at this
        cases this
/-- the end, of any place -/
def endI (l : List I) (i : Int) : Int := if i < 0 ∨ (l.length : Int) ≤ i then i else (endOf l i.toNat : Nat)
theorem endI_out {l : List I} {i : Int} (h : i < 0 ∨ (l.length : Int) ≤ i) : endI l i = i := if_pos h
theorem endI_at {l : List I} {p : Nat} (h : p < l.length) : endI l p = (endOf l p : Nat) := by
  unfold endI; rw [if_neg (by omega), Int.toNat_natCast]
end Go.Proofs.Ytahaooghebmhnaa.M
