/-
  Where jumps end, and jumps that go straight, as plain functions.
-/
import Derived.Test.YtfmlefadifpocaaG1
namespace Go.Proofs.Ytfmlefadifpocaa.M
set_option linter.unusedVariables false

def isJa (x : I) : Bool := kind x.1 == 11
theorem isJa_iff {x : I} : isJa x = true ↔ kind x.1 = 11 := by unfold isJa; rw [beq_iff_eq]
theorem isJa_not {x : I} : isJa x = false ↔ kind x.1 ≠ 11 := by unfold isJa; rw [beq_eq_false_iff_ne]
theorem at0_out {l : List I} {i : Nat} (h : l.length ≤ i) : at0 l i = (0, 0, 0, 0) := by
  unfold at0; rw [List.getD_eq_getElem?_getD, List.getElem?_eq_none h]; rfl
theorem isJa_out {l : List I} {i : Nat} (h : l.length ≤ i) : isJa (at0 l i) = false := by
  rw [at0_out h]; decide
theorem ja_lt {l : List I} {i : Nat} (h : isJa (at0 l i) = true) : i < l.length := by
  by_cases e : i < l.length
  · exact e
  · rw [isJa_out (by omega)] at h; cases h
/-- a Ja's target -/
def tgt (l : List I) (i : Nat) : Nat := i + 1 + (at0 l i).2.2.2.toNat
theorem tgt_gt (l : List I) (i : Nat) : i < tgt l i := by unfold tgt; omega
theorem tgt_nxt {l : List I} {i : Nat} (h : isJa (at0 l i) = true) : nxt i (at0 l i) = [tgt l i] := nxt_ja (isJa_iff.1 h)
theorem tgt_beh {l : List I} {i : Nat} (h : isJa (at0 l i) = true) : beh i (at0 l i) = [tgt l i] := by
  rw [beh_not (by rw [isJa_iff.1 h]; decide), tgt_nxt h]
theorem tgt_lt {l : List I} (hr : right l) (ok : ∀ x ∈ l, okI x) {i : Nat} (h : isJa (at0 l i) = true) : tgt l i < l.length :=
  beh_lt hr ok (ja_lt h) (by rw [tgt_beh h]; simp)
/-- from Ja to Ja, so many times at most -/
def jaN (l : List I) : Nat → Nat → Nat
  | 0, i => i
  | n + 1, i => if isJa (at0 l i) = true then jaN l n (tgt l i) else i
theorem jaN_not {l : List I} {i : Nat} (h : isJa (at0 l i) = false) (n : Nat) : jaN l n i = i := by
  cases n with
  | zero => rfl
  | succ n => rw [jaN, if_neg (by rw [h]; simp)]
theorem jaN_ja {l : List I} {i : Nat} (h : isJa (at0 l i) = true) (n : Nat) : jaN l (n + 1) i = jaN l n (tgt l i) := by
  rw [jaN, if_pos h]
theorem jaN_add (l : List I) (m : Nat) : ∀ (n i : Nat), jaN l m (jaN l n i) = jaN l (n + m) i := by
  intro n
  induction n with
  | zero => intro i; rw [Nat.zero_add]; rfl
  | succ n ih =>
    intro i
    cases h : isJa (at0 l i) with
    | true => rw [jaN_ja h, ih, show n + 1 + m = (n + m) + 1 by omega, jaN_ja h]
    | false => rw [jaN_not h, jaN_not h, jaN_not h]
theorem jaN_ge (l : List I) : ∀ (n i : Nat), i ≤ jaN l n i := by
  intro n
  induction n with
  | zero => intro i; exact Nat.le_refl _
  | succ n ih =>
    intro i
    cases h : isJa (at0 l i) with
    | true => rw [jaN_ja h]; have := ih (tgt l i); have := tgt_gt l i; omega
    | false => rw [jaN_not h]; exact Nat.le_refl _
theorem jaN_lt {l : List I} (hr : right l) (ok : ∀ x ∈ l, okI x) : ∀ (n i : Nat), i < l.length → jaN l n i < l.length := by
  intro n
  induction n with
  | zero => intro i h; exact h
  | succ n ih =>
    intro i h
    cases e : isJa (at0 l i) with
    | true => rw [jaN_ja e]; exact ih _ (tgt_lt hr ok e)
    | false => rw [jaN_not e]; exact h
theorem jaN_far (l : List I) : ∀ (n i : Nat), isJa (at0 l (jaN l n i)) = true → i + n ≤ jaN l n i := by
  intro n
  induction n with
  | zero => intro i _; exact Nat.le_refl _
  | succ n ih =>
    intro i h
    cases e : isJa (at0 l i) with
    | true => rw [jaN_ja e] at h ⊢; have := ih _ h; have := tgt_gt l i; omega
    | false => rw [jaN_not e, e] at h; cases h
/-- the end of a place -/
def endOf (l : List I) (i : Nat) : Nat := jaN l l.length i
theorem endOf_stop (l : List I) (i : Nat) : isJa (at0 l (endOf l i)) = false := by
  cases h : isJa (at0 l (endOf l i)) with
  | false => rfl
  | true =>
    have := jaN_far l l.length i h
    have := ja_lt h
    unfold endOf at this
    omega
theorem endOf_not {l : List I} {i : Nat} (h : isJa (at0 l i) = false) : endOf l i = i := jaN_not h _
theorem endOf_ja {l : List I} {i : Nat} (h : isJa (at0 l i) = true) : endOf l i = endOf l (tgt l i) := by
  have hl := ja_lt h
  have e1 : endOf l i = jaN l (l.length - 1) (tgt l i) := by
    unfold endOf
    rw [show l.length = (l.length - 1) + 1 by omega, jaN_ja h, Nat.add_sub_cancel]
  have e2 : endOf l (tgt l i) = jaN l 1 (endOf l i) := by
    rw [e1, jaN_add]
    unfold endOf
    rw [show l.length - 1 + 1 = l.length by omega]
  rw [e2, jaN_not (endOf_stop l i)]
theorem endOf_ge (l : List I) (i : Nat) : i ≤ endOf l i := jaN_ge l _ i
theorem endOf_gt {l : List I} {i : Nat} (h : isJa (at0 l i) = true) : tgt l i ≤ endOf l i := by rw [endOf_ja h]; exact endOf_ge _ _
theorem endOf_lt {l : List I} (hr : right l) (ok : ∀ x ∈ l, okI x) {i : Nat} (h : i < l.length) : endOf l i < l.length := jaN_lt hr ok _ i h
theorem endOf_jaN (l : List I) : ∀ (n i : Nat), endOf l (jaN l n i) = endOf l i := by
  intro n
  induction n with
  | zero => intro i; rfl
  | succ n ih =>
    intro i
    cases h : isJa (at0 l i) with
    | true => rw [jaN_ja h, ih, ← endOf_ja h]
    | false => rw [jaN_not h]
/-- where a side of a question goes: from Ja to Ja, while that is near enough -/
def strN (l : List I) (f : Nat) : Nat → Nat → Nat
  | 0, t => t
  | n + 1, t => if isJa (at0 l t) = true ∧ tgt l t ≤ f + 256 then strN l f n (tgt l t) else t
theorem strN_go {l : List I} {f t : Nat} (h : isJa (at0 l t) = true ∧ tgt l t ≤ f + 256) (n : Nat) : strN l f (n + 1) t = strN l f n (tgt l t) := by
  rw [strN, if_pos h]
theorem strN_no {l : List I} {f t : Nat} (h : ¬ (isJa (at0 l t) = true ∧ tgt l t ≤ f + 256)) (n : Nat) : strN l f n t = t := by
  cases n with
  | zero => rfl
  | succ n => rw [strN, if_neg h]
theorem strN_jaN (l : List I) (f : Nat) : ∀ (n t : Nat), ∃ k, strN l f n t = jaN l k t := by
  intro n
  induction n with
  | zero => intro t; exact ⟨0, rfl⟩
  | succ n ih =>
    intro t
    by_cases h : isJa (at0 l t) = true ∧ tgt l t ≤ f + 256
    · obtain ⟨k, e⟩ := ih (tgt l t)
      exact ⟨k + 1, by rw [strN_go h, jaN_ja h.1, e]⟩
    · exact ⟨0, by rw [strN_no h]; rfl⟩
theorem strN_near (l : List I) (f : Nat) : ∀ (n t : Nat), t ≤ f + 256 → strN l f n t ≤ f + 256 := by
  intro n
  induction n with
  | zero => intro t h; exact h
  | succ n ih =>
    intro t h
    by_cases e : isJa (at0 l t) = true ∧ tgt l t ≤ f + 256
    · rw [strN_go e]; exact ih _ e.2
    · rw [strN_no e]; exact h
theorem strN_far (l : List I) (f : Nat) : ∀ (n t : Nat), (isJa (at0 l (strN l f n t)) = true ∧ tgt l (strN l f n t) ≤ f + 256) → t + n ≤ strN l f n t := by
  intro n
  induction n with
  | zero => intro t _; exact Nat.le_refl _
  | succ n ih =>
    intro t h
    by_cases e : isJa (at0 l t) = true ∧ tgt l t ≤ f + 256
    · rw [strN_go e] at h ⊢; have := ih _ h; have := tgt_gt l t; omega
    · rw [strN_no e] at h; exact absurd h e
def strt (l : List I) (f t : Nat) : Nat := strN l f l.length t
theorem strt_stop (l : List I) (f t : Nat) : ¬ (isJa (at0 l (strt l f t)) = true ∧ tgt l (strt l f t) ≤ f + 256) := by
  intro h
  have h1 := strN_far l f l.length t h
  have h2 := ja_lt h.1
  unfold strt at h2
  omega
theorem strt_ge (l : List I) (f t : Nat) : t ≤ strt l f t := by
  obtain ⟨k, e⟩ := strN_jaN l f l.length t
  unfold strt; rw [e]; exact jaN_ge l k t
theorem strt_near {l : List I} {f t : Nat} (h : t ≤ f + 256) : strt l f t ≤ f + 256 := strN_near l f _ t h
theorem strt_jaN (l : List I) (f t : Nat) : ∃ k, strt l f t = jaN l k t := strN_jaN l f _ t
theorem strt_lt {l : List I} (hr : right l) (ok : ∀ x ∈ l, okI x) {f t : Nat} (h : t < l.length) : strt l f t < l.length := by
  obtain ⟨k, e⟩ := strt_jaN l f t
  rw [e]; exact jaN_lt hr ok k t h
/-- an instruction whose jumps go straight -/
def strI (l : List I) (i : Nat) : I :=
  if kind (at0 l i).1 = 11 then ((at0 l i).1, (at0 l i).2.1, (at0 l i).2.2.1, ((endOf l i - i - 1 : Nat) : Int))
  else if kind (at0 l i).1 = 12 then ((at0 l i).1, ((strt l i (i + 1 + (at0 l i).2.1.toNat) - i - 1 : Nat) : Int), ((strt l i (i + 1 + (at0 l i).2.2.1.toNat) - i - 1 : Nat) : Int), (at0 l i).2.2.2)
  else at0 l i
def strL (l : List I) : List I := (List.range l.length).map (strI l)
theorem strL_len (l : List I) : (strL l).length = l.length := by unfold strL; rw [List.length_map, List.length_range]
theorem strL_at {l : List I} {i : Nat} (h : i < l.length) : at0 (strL l) i = strI l i := by
  rw [at0_eq (by rw [strL_len]; exact h)]
  unfold strL
  rw [List.getElem_map, List.getElem_range]
theorem strI_ja {l : List I} {i : Nat} (h : isJa (at0 l i) = true) : strI l i = ((at0 l i).1, (at0 l i).2.1, (at0 l i).2.2.1, ((endOf l i - i - 1 : Nat) : Int)) := by
  unfold strI; rw [if_pos (isJa_iff.1 h)]
theorem strI_jif {l : List I} {i : Nat} (h : kind (at0 l i).1 = 12) : strI l i = ((at0 l i).1, ((strt l i (i + 1 + (at0 l i).2.1.toNat) - i - 1 : Nat) : Int), ((strt l i (i + 1 + (at0 l i).2.2.1.toNat) - i - 1 : Nat) : Int), (at0 l i).2.2.2) := by
  unfold strI; rw [if_neg (by omega), if_pos h]
theorem strI_no {l : List I} {i : Nat} (h1 : kind (at0 l i).1 ≠ 11) (h2 : kind (at0 l i).1 ≠ 12) : strI l i = at0 l i := by
  unfold strI; rw [if_neg h1, if_neg h2]
theorem strI_code (l : List I) (i : Nat) : (strI l i).1 = (at0 l i).1 := by
  unfold strI
  split
  · rfl
  · split <;> rfl
theorem strI_k {l : List I} {i : Nat} (h : kind (at0 l i).1 ≠ 11) : (strI l i).2.2.2 = (at0 l i).2.2.2 := by
  unfold strI
  rw [if_neg h]
  split <;> rfl
theorem strL_code (l : List I) (i : Nat) : (at0 (strL l) i).1 = (at0 l i).1 := by
  by_cases h : i < l.length
  · rw [strL_at h, strI_code]
  · rw [at0_out (by rw [strL_len]; omega), at0_out (by omega)]
theorem strL_ja (l : List I) (i : Nat) : isJa (at0 (strL l) i) = isJa (at0 l i) := by unfold isJa; rw [strL_code]
theorem strL_tgt {l : List I} {i : Nat} (h : isJa (at0 l i) = true) : tgt (strL l) i = endOf l i := by
  have h1 := endOf_gt h
  have h2 := tgt_gt l i
  unfold tgt
  rw [strL_at (ja_lt h), strI_ja h]
  simp only [Int.toNat_natCast]
  omega
theorem strL_end (l : List I) (i : Nat) : endOf (strL l) i = endOf l i := by
  cases h : isJa (at0 l i) with
  | false => rw [endOf_not h, endOf_not (by rw [strL_ja]; exact h)]
  | true =>
    rw [endOf_ja (by rw [strL_ja]; exact h), strL_tgt h]
    exact endOf_not (by rw [strL_ja]; exact endOf_stop l i)
theorem strL_strt (l : List I) (f t : Nat) : strt (strL l) f (strt l f t) = strt l f t := by
  refine strN_no ?_ _
  rw [strL_ja]
  rintro ⟨h1, h2⟩
  rw [strL_tgt h1] at h2
  have := endOf_gt h1
  exact strt_stop l f t ⟨h1, by omega⟩
theorem strL_strL (l : List I) : strL (strL l) = strL l := by
  have e : strL (strL l) = (List.range l.length).map (strI (strL l)) := by
    have := strL_len l
    show (List.range (strL l).length).map _ = _
    rw [this]
  rw [e]
  show _ = (List.range l.length).map (strI l)
  refine List.map_congr_left fun i hi => ?_
  have hi := List.mem_range.1 hi
  have hc := strL_at hi
  by_cases h1 : kind (at0 l i).1 = 11
  · have hj := isJa_iff.2 h1
    rw [strI_ja (by rw [strL_ja]; exact hj), strL_end, hc, strI_ja hj]
  · by_cases h2 : kind (at0 l i).1 = 12
    · rw [strI_jif (by rw [strL_code]; exact h2), hc, strI_jif h2]
      have g1 := strt_ge l i (i + 1 + (at0 l i).2.1.toNat)
      have g2 := strt_ge l i (i + 1 + (at0 l i).2.2.1.toNat)
      simp only [Int.toNat_natCast]
      rw [show i + 1 + (strt l i (i + 1 + (at0 l i).2.1.toNat) - i - 1) = strt l i (i + 1 + (at0 l i).2.1.toNat) by omega,
        show i + 1 + (strt l i (i + 1 + (at0 l i).2.2.1.toNat) - i - 1) = strt l i (i + 1 + (at0 l i).2.2.1.toNat) by omega, strL_strt, strL_strt]
    · rw [strI_no (by rw [strL_code]; exact h1) (by rw [strL_code]; exact h2), hc]
theorem strI_ok {l : List I} (hr : right l) (ok : ∀ x ∈ l, okI x) (i : Nat) : okI (strI l i) := by
  have h0 := at0_ok ok i
  obtain ⟨a0, a1, a2, a3⟩ := h0
  by_cases hi : i < l.length
  · have hn := ((right_iff l).1 hr).1.2
    by_cases h1 : kind (at0 l i).1 = 11
    · rw [strI_ja (isJa_iff.2 h1)]
      have := endOf_lt hr ok hi
      exact ⟨a0, a1, a2, by simp only; omega⟩
    · by_cases h2 : kind (at0 l i).1 = 12
      · rw [strI_jif h2]
        have g1 := strt_near (l := l) (f := i) (t := i + 1 + (at0 l i).2.1.toNat) (by omega)
        have g2 := strt_near (l := l) (f := i) (t := i + 1 + (at0 l i).2.2.1.toNat) (by omega)
        exact ⟨a0, by simp only; omega, by simp only; omega, a3⟩
      · rw [strI_no h1 h2]; exact ⟨a0, a1, a2, a3⟩
  · rw [strI_no (by rw [at0_out (by omega)]; decide) (by rw [at0_out (by omega)]; decide)]; exact ⟨a0, a1, a2, a3⟩
theorem strL_ok {l : List I} (hr : right l) (ok : ∀ x ∈ l, okI x) : ∀ x ∈ strL l, okI x := by
  intro x hx
  obtain ⟨i, _, rfl⟩ := List.mem_map.1 hx
  exact strI_ok hr ok i

/-- where an instruction goes on: by the one side or the other of a question -/
def sel (b : Bool) (i : Nat) (x : I) : Nat := if kind x.1 = 11 then i + 1 + x.2.2.2.toNat else if kind x.1 = 12 then (if b = true then i + 1 + x.2.1.toNat else i + 1 + x.2.2.1.toNat) else i + 1
theorem sel_gt (b : Bool) (i : Nat) (x : I) : i < sel b i x := by
  unfold sel
  split
  · omega
  · split
    · split <;> omega
    · omega
theorem mem_sel {i j : Nat} {x : I} : j ∈ nxt i x ↔ rets x = false ∧ ∃ b, j = sel b i x := by
  have hR : rets x = false ↔ ¬ (kind x.1 = 13 ∨ kind x.1 = 14) := by
    unfold rets
    rw [Bool.or_eq_false_iff, beq_eq_false_iff_ne, beq_eq_false_iff_ne]; omega
  by_cases h1 : kind x.1 = 11
  · have e : ∀ b, sel b i x = i + 1 + x.2.2.2.toNat := fun b => by unfold sel; rw [if_pos h1]
    rw [nxt_ja h1, hR]
    simp only [List.mem_singleton, e]
    exact ⟨fun h => ⟨by omega, true, h⟩, fun ⟨_, _, h⟩ => h⟩
  · by_cases h2 : kind x.1 = 12
    · have e1 : sel true i x = i + 1 + x.2.1.toNat := by unfold sel; rw [if_neg h1, if_pos h2, if_pos rfl]
      have e2 : sel false i x = i + 1 + x.2.2.1.toNat := by unfold sel; rw [if_neg h1, if_pos h2, if_neg (by simp)]
      rw [nxt_jif h2, hR]
      simp only [List.mem_cons, List.not_mem_nil, or_false]
      constructor
      · rintro (h | h)
        · exact ⟨by omega, true, by rw [e1]; exact h⟩
        · exact ⟨by omega, false, by rw [e2]; exact h⟩
      · rintro ⟨_, b, h⟩
        cases b with
        | true => rw [e1] at h; exact .inl h
        | false => rw [e2] at h; exact .inr h
    · have e : ∀ b, sel b i x = i + 1 := fun b => by unfold sel; rw [if_neg h1, if_neg h2]
      by_cases h3 : kind x.1 = 13 ∨ kind x.1 = 14
      · rw [nxt_ret h3, hR]
        exact ⟨fun h => (by cases h), fun h => absurd h3 h.1⟩
      · rw [nxt_on (by omega), hR]
        simp only [List.mem_singleton, e]
        exact ⟨fun h => ⟨h3, true, h⟩, fun ⟨_, _, h⟩ => h⟩
/-- straight: the same way, from Ja to Ja -/
theorem sel_str {l : List I} (b : Bool) (i : Nat) : ∃ k, sel b i (strI l i) = jaN l k (sel b i (at0 l i)) := by
  by_cases h1 : kind (at0 l i).1 = 11
  · have hj := isJa_iff.2 h1
    have e : sel b i (at0 l i) = tgt l i := by unfold sel; rw [if_pos h1]; rfl
    have e2 : sel b i (strI l i) = endOf l i := by
      have g1 := endOf_gt hj
      have g2 := tgt_gt l i
      unfold sel
      rw [strI_code, if_pos h1, strI_ja hj]
      simp only [Int.toNat_natCast]
      omega
    exact ⟨l.length, by rw [e, e2, endOf_ja hj]; rfl⟩
  · by_cases h2 : kind (at0 l i).1 = 12
    · have g1 := strt_ge l i (i + 1 + (at0 l i).2.1.toNat)
      have g2 := strt_ge l i (i + 1 + (at0 l i).2.2.1.toNat)
      unfold sel
      rw [strI_code, if_neg h1, if_neg h1, if_pos h2, if_pos h2, strI_jif h2]
      simp only [Int.toNat_natCast]
      cases b with
      | true =>
        obtain ⟨k, e⟩ := strt_jaN l i (i + 1 + (at0 l i).2.1.toNat)
        exact ⟨k, by rw [if_pos rfl, if_pos rfl, ← e]; omega⟩
      | false =>
        obtain ⟨k, e⟩ := strt_jaN l i (i + 1 + (at0 l i).2.2.1.toNat)
        exact ⟨k, by rw [if_neg (by simp), if_neg (by simp), ← e]; omega⟩
    · exact ⟨0, by rw [strI_no h1 h2]; rfl⟩
end Go.Proofs.Ytfmlefadifpocaa.M
namespace Go.Proofs.Ytfmlefadifpocaa.M
set_option linter.unusedVariables false
set_option linter.unusedSectionVars false

/-- how many of the first places are so -/
def cnP (P : Nat → Bool) (j : Nat) : Nat := ((List.range j).filter P).length
def lsP (P : Nat → Bool) (n : Nat) : List Nat := (List.range n).filter P
theorem cnP_succ (P : Nat → Bool) (j : Nat) : cnP P (j + 1) = cnP P j + (if P j = true then 1 else 0) := by
  unfold cnP
  rw [List.range_succ, List.filter_append, List.length_append]
  congr 1
  simp only [List.filter_cons, List.filter_nil]
  split <;> simp
theorem cnP_mono (P : Nat → Bool) {j k : Nat} (h : j ≤ k) : cnP P j ≤ cnP P k := by
  induction k with
  | zero => have : j = 0 := by omega
            subst this; exact Nat.le_refl _
  | succ k ih =>
    by_cases e : j = k + 1
    · subst e; exact Nat.le_refl _
    · have := ih (by omega)
      rw [cnP_succ]; omega
theorem cnP_lt (P : Nat → Bool) {j k : Nat} (h : j < k) (hl : P j = true) : cnP P j < cnP P k := by
  have := cnP_mono P (show j + 1 ≤ k by omega)
  rw [cnP_succ, if_pos hl] at this
  omega
theorem cnP_flat (P : Nat → Bool) {a b : Nat} (hab : a ≤ b) (h : ∀ k, a ≤ k → k < b → P k = false) : cnP P b = cnP P a := by
  induction b with
  | zero => have : a = 0 := by omega
            subst this; rfl
  | succ b ih =>
    by_cases e : a = b + 1
    · subst e; rfl
    · rw [cnP_succ, h b (by omega) (by omega), ih (by omega) (fun k h1 h2 => h k h1 (by omega))]
      simp
theorem cnP_near (P : Nat → Bool) {a b : Nat} (hab : a ≤ b) : cnP P b ≤ cnP P a + (b - a) := by
  induction b with
  | zero => have : a = 0 := by omega
            subst this; omega
  | succ b ih =>
    by_cases e : a = b + 1
    · subst e; omega
    · have := ih (by omega)
      rw [cnP_succ]
      split <;> omega
theorem lsP_succ (P : Nat → Bool) (n : Nat) : lsP P (n + 1) = lsP P n ++ (if P n = true then [n] else []) := by
  unfold lsP
  rw [List.range_succ, List.filter_append]
  congr 1
  simp only [List.filter_cons, List.filter_nil]
theorem lsP_len (P : Nat → Bool) (n : Nat) : (lsP P n).length = cnP P n := rfl
theorem lsP_get (P : Nat → Bool) : ∀ (n j : Nat), j < n → P j = true → (lsP P n)[cnP P j]? = some j := by
  intro n
  induction n with
  | zero => intro j h; omega
  | succ n ih =>
    intro j h hl
    rw [lsP_succ]
    by_cases e : j = n
    · subst e
      rw [if_pos hl, List.getElem?_append_right (by rw [lsP_len]; exact Nat.le_refl _), lsP_len]
      simp
    · have h1 := cnP_lt P (show j < n by omega) hl
      rw [List.getElem?_append_left (by rw [lsP_len]; exact h1)]
      exact ih j (by omega) hl
theorem lsP_mem {P : Nat → Bool} {n j : Nat} : j ∈ lsP P n ↔ j < n ∧ P j = true := by
  unfold lsP
  rw [List.mem_filter, List.mem_range]
theorem cnP_inj (P : Nat → Bool) {j k : Nat} (hj : P j = true) (hk : P k = true) (h : cnP P j = cnP P k) : j = k := by
  rcases Nat.lt_trichotomy j k with e | e | e
  · have := cnP_lt P e hj; omega
  · exact e
  · have := cnP_lt P e hk; omega
theorem lsP_cnP {P : Nat → Bool} {n i : Nat} (hi : i < (lsP P n).length) : cnP P (lsP P n)[i] = i := by
  have hs : (lsP P n).Pairwise (· < ·) := List.Pairwise.filter _ List.pairwise_lt_range
  have hm := lsP_mem.1 (List.getElem_mem hi)
  have hg := lsP_get P n _ hm.1 hm.2
  obtain ⟨h1, h2⟩ := List.getElem?_eq_some_iff.1 hg
  rcases Nat.lt_trichotomy (cnP P (lsP P n)[i]) i with h | h | h
  · have := List.pairwise_iff_getElem.1 hs _ _ h1 hi h
    omega
  · exact h
  · have := List.pairwise_iff_getElem.1 hs _ _ hi h1 h
    omega
theorem lsP_all {P : Nat → Bool} : ∀ {n : Nat}, (lsP P n).length = n → ∀ i, i < n → P i = true := by
  intro n
  induction n with
  | zero => intro _ i h; omega
  | succ n ih =>
    intro h i hi
    have hle : ∀ m, cnP P m ≤ m := fun m => by have := cnP_near P (Nat.zero_le m); have e : cnP P 0 = 0 := rfl; omega
    rw [lsP_len, cnP_succ] at h
    have h1 := hle n
    have hp : P n = true := by
      by_cases e : P n = true
      · exact e
      · rw [if_neg e] at h; omega
    rw [if_pos hp] at h
    by_cases e : i = n
    · subst e; exact hp
    · exact ih (by rw [lsP_len]; omega) i (by omega)
theorem cnP_all {P : Nat → Bool} : ∀ {n : Nat}, (∀ i, i < n → P i = true) → cnP P n = n := by
  intro n
  induction n with
  | zero => intro _; rfl
  | succ n ih => intro h; rw [cnP_succ, if_pos (h n (by omega)), ih (fun i hi => h i (by omega))]

/-- is it needed, of a list whose jumps go straight? for so many places -/
def ndF (s : List I) : Nat → Nat → Bool
  | 0, _ => false
  | n + 1, i => rch s i && (!isJa (at0 s i) || (List.range (tgt s i)).any fun k => decide (i < k) && ndF s n k)
theorem ndF_out {s : List I} {i : Nat} (h : s.length ≤ i) (n : Nat) : ndF s n i = false := by
  cases n with
  | zero => rfl
  | succ n =>
    rw [ndF]
    cases e : rch s i with
    | false => rfl
    | true => have := rch_lt e; omega
theorem any_ext {α : Type} {f g : α → Bool} : ∀ {l : List α}, (∀ x ∈ l, f x = g x) → l.any f = l.any g := by
  intro l
  induction l with
  | nil => intro _; rfl
  | cons a l ih => intro h; rw [List.any_cons, List.any_cons, h a (by simp), ih (fun x hx => h x (by simp [hx]))]
theorem ndF_same (s : List I) : ∀ (d i n m : Nat), s.length ≤ i + d → d ≤ n → d ≤ m → ndF s n i = ndF s m i := by
  intro d
  induction d with
  | zero => intro i n m h _ _; rw [ndF_out (by omega), ndF_out (by omega)]
  | succ d ih =>
    intro i n m h hn hm
    obtain ⟨n, rfl⟩ : ∃ a, n = a + 1 := ⟨n - 1, by omega⟩
    obtain ⟨m, rfl⟩ : ∃ a, m = a + 1 := ⟨m - 1, by omega⟩
    rw [ndF, ndF]
    congr 2
    refine any_ext fun k _ => ?_
    by_cases e : i < k
    · rw [ih k n m (by omega) (by omega) (by omega)]
    · rw [decide_eq_false e]; rfl
def nd (s : List I) (i : Nat) : Bool := ndF s (s.length - i) i
theorem nd_eq (s : List I) (i : Nat) : nd s i = (rch s i && (!isJa (at0 s i) || (List.range (tgt s i)).any fun k => decide (i < k) && nd s k)) := by
  by_cases h : i < s.length
  · unfold nd
    rw [show s.length - i = (s.length - i - 1) + 1 by omega, ndF]
    congr 2
    refine any_ext fun k _ => ?_
    by_cases e : i < k
    · rw [ndF_same s (s.length - k) k (s.length - i - 1) (s.length - k) (by omega) (by omega) (Nat.le_refl _)]
    · rw [decide_eq_false e]; rfl
  · unfold nd
    rw [ndF_out (by omega)]
    cases e : rch s i with
    | false => rfl
    | true => have := rch_lt e; omega
theorem nd_iff {s : List I} {i : Nat} : nd s i = true ↔ rch s i = true ∧ (isJa (at0 s i) = false ∨ ∃ k, i < k ∧ k < tgt s i ∧ nd s k = true) := by
  rw [nd_eq, Bool.and_eq_true, Bool.or_eq_true, Bool.not_eq_true', List.any_eq_true]
  refine and_congr_right fun _ => or_congr_right ?_
  constructor
  · rintro ⟨k, h1, h2⟩
    rw [Bool.and_eq_true, decide_eq_true_eq] at h2
    exact ⟨k, h2.1, List.mem_range.1 h1, h2.2⟩
  · rintro ⟨k, h1, h2, h3⟩
    exact ⟨k, List.mem_range.2 h2, by rw [Bool.and_eq_true, decide_eq_true_eq]; exact ⟨h1, h3⟩⟩
theorem nd_lt {s : List I} {i : Nat} (h : nd s i = true) : i < s.length := rch_lt (nd_iff.1 h).1
def cnt (s : List I) (i : Nat) : Nat := cnP (nd s) i
/-- an instruction as a round leaves it -/
def rndI (s : List I) (i : Nat) : I :=
  if kind (at0 s i).1 = 11 then ((at0 s i).1, (at0 s i).2.1, (at0 s i).2.2.1, ((cnt s (tgt s i) - cnt s i - 1 : Nat) : Int))
  else if kind (at0 s i).1 = 12 then ((at0 s i).1, ((cnt s (i + 1 + (at0 s i).2.1.toNat) - cnt s i - 1 : Nat) : Int), ((cnt s (i + 1 + (at0 s i).2.2.1.toNat) - cnt s i - 1 : Nat) : Int), (at0 s i).2.2.2)
  else at0 s i
def rndL (s : List I) : List I := (lsP (nd s) s.length).map (rndI s)
def roundL (l : List I) : List I := rndL (strL l)
theorem rndI_code (s : List I) (i : Nat) : (rndI s i).1 = (at0 s i).1 := by
  unfold rndI
  split
  · rfl
  · split <;> rfl
theorem rndI_k {s : List I} {i : Nat} (h : kind (at0 s i).1 ≠ 11) : (rndI s i).2.2.2 = (at0 s i).2.2.2 := by
  unfold rndI
  rw [if_neg h]
  split <;> rfl
theorem rndL_len (s : List I) : (rndL s).length = cnt s s.length := by unfold rndL; rw [List.length_map]; rfl
theorem cnt_lt {s : List I} {i : Nat} (h : nd s i = true) : cnt s i < (rndL s).length := by
  rw [rndL_len]; exact cnP_lt _ (nd_lt h) h
theorem rndL_at {s : List I} {i : Nat} (h : nd s i = true) : at0 (rndL s) (cnt s i) = rndI s i := by
  have := lsP_get (nd s) s.length i (nd_lt h) h
  unfold at0 rndL cnt
  rw [List.getD_eq_getElem?_getD, List.getElem?_map, this]
  rfl
/-- each place of a round comes of one that is needed -/
theorem rnd_of {s : List I} {j : Nat} (h : j < (rndL s).length) : ∃ i, nd s i = true ∧ cnt s i = j := by
  have h' : j < (lsP (nd s) s.length).length := by rw [lsP_len]; rw [rndL_len] at h; exact h
  exact ⟨_, (lsP_mem.1 (List.getElem_mem h')).2, lsP_cnP h'⟩
theorem rnd_sel {s : List I} {i : Nat} (h : nd s i = true) (b : Bool) : sel b (cnt s i) (rndI s i) = cnt s (sel b i (at0 s i)) := by
  unfold sel
  rw [rndI_code]
  by_cases h1 : kind (at0 s i).1 = 11
  · rw [if_pos h1, if_pos h1]
    unfold rndI
    rw [if_pos h1]
    simp only [Int.toNat_natCast]
    have := cnP_lt (nd s) (tgt_gt s i) h
    unfold cnt
    show _ = cnP (nd s) (tgt s i)
    omega
  · rw [if_neg h1, if_neg h1]
    by_cases h2 : kind (at0 s i).1 = 12
    · rw [if_pos h2, if_pos h2]
      unfold rndI
      rw [if_neg h1, if_pos h2]
      simp only [Int.toNat_natCast]
      have g1 := cnP_lt (nd s) (show i < i + 1 + (at0 s i).2.1.toNat by omega) h
      have g2 := cnP_lt (nd s) (show i < i + 1 + (at0 s i).2.2.1.toNat by omega) h
      unfold cnt
      cases b with
      | true => rw [if_pos rfl, if_pos rfl]; omega
      | false => rw [if_neg (by simp), if_neg (by simp)]; omega
    · rw [if_neg h2, if_neg h2]
      unfold cnt
      rw [cnP_succ, if_pos h]

/-- the needed place that a reached one leads to -/
def nn (s : List I) (t : Nat) : Nat := if nd s t = true then t else tgt s t
theorem nn_yes {s : List I} {t : Nat} (h : nd s t = true) : nn s t = t := if_pos h
theorem nn_no {s : List I} {t : Nat} (h : nd s t = false) : nn s t = tgt s t := if_neg (by rw [h]; simp)
theorem nd_no {s : List I} {t : Nat} (hc : rch s t = true) (h : nd s t = false) : isJa (at0 s t) = true ∧ ∀ k, t ≤ k → k < tgt s t → nd s k = false := by
  have hj : isJa (at0 s t) = true := by
    cases e : isJa (at0 s t) with
    | true => rfl
    | false => rw [nd_iff.2 ⟨hc, .inl e⟩] at h; cases h
  refine ⟨hj, fun k h1 h2 => ?_⟩
  by_cases e : k = t
  · subst e; exact h
  · cases e2 : nd s k with
    | false => rfl
    | true => rw [nd_iff.2 ⟨hc, .inr ⟨k, by omega, h2, e2⟩⟩] at h; cases h
theorem rets_code {x y : I} (h : y.1 = x.1) : rets y = rets x := by unfold rets; rw [h]
theorem wr_code {x y : I} (h : y.1 = x.1) (hk : kind x.1 ≠ 11 → y.2.2.2 = x.2.2.2) (w : Int) : wrW w y = wrW w x := by
  unfold wrW
  rw [h]
  by_cases e : kind x.1 = 11
  · rw [e]; rfl
  · rw [hk e]

theorem str_sel {l : List I} (hr : right l) (ok : ∀ x ∈ l, okI x) {i : Nat} (hi : i < l.length) (hn : rets (at0 l i) = false) (b : Bool) : sel b i (at0 (strL l) i) < l.length := by
  rw [strL_at hi]
  obtain ⟨k, e⟩ := sel_str (l := l) b i
  rw [e]
  exact jaN_lt hr ok k _ (beh_lt hr ok hi (mem_beh.2 (mem_sel.2 ⟨hn, b, rfl⟩)))
theorem str_rch {l : List I} (hr : right l) (ok : ∀ x ∈ l, okI x) {i : Nat} (hi : rch (strL l) i = true) (hn : rets (at0 l i) = false) (b : Bool) : rch (strL l) (sel b i (at0 (strL l) i)) = true := by
  have hil := rch_lt hi
  have hil' : i < l.length := by rw [strL_len] at hil; exact hil
  refine rch_step (strL_ok hr ok) hil hi (mem_beh.2 (mem_sel.2 ⟨by rw [rets_code (strL_code l i)]; exact hn, b, rfl⟩)) ?_
  rw [strL_len]
  exact str_sel hr ok hil' hn b
theorem ja_rets {l : List I} (hr : right l) (ok : ∀ x ∈ l, okI x) {x : I} (h : isJa x = true) : rets x = false := by
  unfold rets
  rw [isJa_iff.1 h]; rfl
theorem nn_nd {l : List I} (hr : right l) (ok : ∀ x ∈ l, okI x) {t : Nat} (hc : rch (strL l) t = true) : nd (strL l) (nn (strL l) t) = true := by
  cases h : nd (strL l) t with
  | true => rw [nn_yes h]; exact h
  | false =>
    obtain ⟨hj, _⟩ := nd_no hc h
    rw [nn_no h]
    have hjl : isJa (at0 l t) = true := by rw [← strL_ja]; exact hj
    have e : tgt (strL l) t = sel true t (at0 (strL l) t) := by unfold sel; rw [if_pos (isJa_iff.1 hj)]; rfl
    refine nd_iff.2 ⟨by rw [e]; exact str_rch hr ok hc (ja_rets hr ok hjl) true, .inl ?_⟩
    rw [strL_ja, strL_tgt hjl]
    exact endOf_stop l t
theorem nn_cnt {l : List I} (hr : right l) (ok : ∀ x ∈ l, okI x) {t : Nat} (hc : rch (strL l) t = true) : cnt (strL l) (nn (strL l) t) = cnt (strL l) t := by
  cases h : nd (strL l) t with
  | true => rw [nn_yes h]
  | false =>
    obtain ⟨_, hk⟩ := nd_no hc h
    rw [nn_no h]
    exact cnP_flat _ (Nat.le_of_lt (tgt_gt _ t)) hk
theorem nn_ja {l : List I} (hr : right l) (ok : ∀ x ∈ l, okI x) {t : Nat} (hc : rch (strL l) t = true) : ∃ k, nn (strL l) t = jaN l k t := by
  cases h : nd (strL l) t with
  | true => exact ⟨0, by rw [nn_yes h]; rfl⟩
  | false =>
    obtain ⟨hj, _⟩ := nd_no hc h
    have hjl : isJa (at0 l t) = true := by rw [← strL_ja]; exact hj
    exact ⟨l.length, by rw [nn_no h, strL_tgt hjl]; rfl⟩
theorem len0 {l : List I} (hr : right l) (ok : ∀ x ∈ l, okI x) : 0 < l.length := ((right_iff l).1 hr).1.1
theorem str0 {l : List I} (hr : right l) (ok : ∀ x ∈ l, okI x) : rch (strL l) 0 = true := rch_zero (by rw [strL_len]; exact len0 hr ok)
/-- without a word written, from Ja to Ja -/
theorem bare_ja {l : List I} (hr : right l) (ok : ∀ x ∈ l, okI x) {w : Int} : ∀ (k t : Nat), Bare l w t → Bare l w (jaN l k t) := by
  intro k
  induction k with
  | zero => intro t h; exact h
  | succ k ih =>
    intro t h
    cases e : isJa (at0 l t) with
    | false => rw [jaN_not e]; exact h
    | true =>
      rw [jaN_ja e]
      have ht := ja_lt e
      have hw : wrW w (at0 l t) = false := by unfold wrW; rw [isJa_iff.1 e]; rfl
      refine ih _ (Bare.step ht h (by rw [← at0_eq ht]; exact hw) (by rw [← at0_eq ht, tgt_nxt e]; simp) (tgt_lt hr ok e))
theorem round_bare {l : List I} (hr : right l) (ok : ∀ x ∈ l, okI x) {w : Int} {j : Nat} (h : Bare (roundL l) w j) : ∀ i, nd (strL l) i = true → cnt (strL l) i = j → Bare l w i := by
  refine Bare.ind (P := fun j => ∀ i, nd (strL l) i = true → cnt (strL l) i = j → Bare l w i) (fun h i hi hc => ?_) (fun j j' hj hb ih hw hn hl i hi hc => ?_) h
  · have h0 := str0 hr ok
    have e : nn (strL l) 0 = i := cnP_inj _ (nn_nd hr ok h0) hi (by
      have := nn_cnt hr ok h0
      unfold cnt at this hc
      rw [this, hc]; rfl)
    obtain ⟨k, e2⟩ := nn_ja hr ok h0
    rw [← e, e2]
    exact bare_ja hr ok k 0 (Bare.zero (len0 hr ok))
  · obtain ⟨p, hp, hpc⟩ := rnd_of hj
    have hpl := nd_lt hp
    rw [strL_len] at hpl
    have ex : (roundL l)[j] = rndI (strL l) p := by
      rw [← at0_eq hj, ← hpc]; exact rndL_at hp
    rw [ex] at hw hn
    have hcode : (rndI (strL l) p).1 = (at0 l p).1 := by rw [rndI_code, strL_code]
    have hk : kind (at0 l p).1 ≠ 11 → (rndI (strL l) p).2.2.2 = (at0 l p).2.2.2 := fun h1 => by
      rw [rndI_k (by rw [strL_code]; exact h1), strL_at hpl, strI_k h1]
    rw [wr_code hcode hk] at hw
    obtain ⟨hrt, b, hj'⟩ := mem_sel.1 hn
    rw [rets_code hcode] at hrt
    rw [← hpc, rnd_sel hp] at hj'
    have hB := ih p hp hpc
    have hnx : sel b p (at0 l p) ∈ nxt p (at0 l p) := mem_sel.2 ⟨hrt, b, rfl⟩
    have hB2 : Bare l w (sel b p (at0 l p)) := Bare.step hpl hB (by rw [← at0_eq hpl]; exact hw) (by rw [← at0_eq hpl]; exact hnx) (beh_lt hr ok hpl (mem_beh.2 hnx))
    have hrc := str_rch hr ok (nd_iff.1 hp).1 hrt b
    obtain ⟨k1, e1⟩ := sel_str (l := l) b p
    have hB3 : Bare l w (sel b p (at0 (strL l) p)) := by rw [strL_at hpl, e1]; exact bare_ja hr ok k1 _ hB2
    obtain ⟨k2, e2⟩ := nn_ja hr ok hrc
    have e : nn (strL l) (sel b p (at0 (strL l) p)) = i := cnP_inj _ (nn_nd hr ok hrc) hi (by
      have := nn_cnt hr ok hrc
      unfold cnt at this hc hj'
      rw [this, hc, hj'])
    rw [← e, e2]
    exact bare_ja hr ok k2 _ hB3
theorem rnd_ok {l : List I} (hr : right l) (ok : ∀ x ∈ l, okI x) : ∀ x ∈ roundL l, okI x := by
  intro x hx
  obtain ⟨i, hi, rfl⟩ := List.mem_map.1 hx
  obtain ⟨hil, hn⟩ := lsP_mem.1 hi
  obtain ⟨a0, a1, a2, a3⟩ := at0_ok (strL_ok hr ok) i
  have hlen := ((right_iff l).1 hr).1.2
  have hc : ∀ t, i < t → cnt (strL l) t - cnt (strL l) i - 1 ≤ t - i - 1 := fun t ht => by
    have := cnP_near (nd (strL l)) (show i ≤ t by omega)
    unfold cnt
    omega
  unfold rndI
  split
  · rename_i h1
    have hj := isJa_iff.2 h1
    have hjl : isJa (at0 l i) = true := by rw [← strL_ja]; exact hj
    have h2 := hc _ (tgt_gt (strL l) i)
    rw [strL_len] at hil
    have h3 := endOf_lt hr ok hil
    rw [← strL_tgt hjl] at h3
    exact ⟨a0, a1, a2, by simp only; omega⟩
  · split
    · have h2 := hc (i + 1 + (at0 (strL l) i).2.1.toNat) (by omega)
      have h3 := hc (i + 1 + (at0 (strL l) i).2.2.1.toNat) (by omega)
      exact ⟨a0, by simp only; omega, by simp only; omega, a3⟩
    · exact ⟨a0, a1, a2, a3⟩
theorem round_len {l : List I} (hr : right l) (ok : ∀ x ∈ l, okI x) : 0 < (roundL l).length ∧ (roundL l).length ≤ l.length := by
  constructor
  · have := cnt_lt (nn_nd hr ok (str0 hr ok))
    unfold roundL; omega
  · unfold roundL
    rw [rndL_len, strL_len]
    have := cnP_near (nd (strL l)) (Nat.zero_le l.length)
    have e : cnP (nd (strL l)) 0 = 0 := rfl
    unfold cnt
    omega
theorem round_right {l : List I} (hr : right l) (ok : ∀ x ∈ l, okI x) : right (roundL l) := by
  obtain ⟨⟨h1, h2⟩, h3, h4, h5⟩ := (right_iff l).1 hr
  obtain ⟨g1, g2⟩ := round_len hr ok
  refine (right_iff _).2 ⟨⟨g1, by omega⟩, fun j hj => ?_, ?_, fun j hj => ?_⟩
  · obtain ⟨i, hi, hc⟩ := rnd_of hj
    have hil := nd_lt hi
    rw [strL_len] at hil
    have ex : (roundL l)[j] = rndI (strL l) i := by rw [← at0_eq hj, ← hc]; exact rndL_at hi
    have hw := h3 i hil
    unfold wrong at hw ⊢
    rw [List.getElem?_eq_getElem hil] at hw
    rw [List.getElem?_eq_getElem hj, ex]
    simp only [bne_eq_false_iff_eq] at hw ⊢
    rw [← at0_eq hil] at hw
    have hcode : (rndI (strL l) i).1 = (at0 l i).1 := by rw [rndI_code, strL_code]
    have hk : kind (at0 l i).1 ≠ 11 → (rndI (strL l) i).2.2.2 = (at0 l i).2.2.2 := fun h1 => by
      rw [rndI_k (by rw [strL_code]; exact h1), strL_at hil, strI_k h1]
    have hsel : rets (at0 l i) = false → ∀ b, sel b j (rndI (strL l) i) < (roundL l).length := fun hrt b => by
      have hrc := str_rch hr ok (nd_iff.1 hi).1 hrt b
      rw [← hc, rnd_sel hi, ← nn_cnt hr ok hrc]
      exact cnt_lt (nn_nd hr ok hrc)
    have hb := rnd_ok hr ok _ (List.mem_map.2 ⟨i, lsP_mem.2 ⟨nd_lt hi, hi⟩, rfl⟩)
    obtain ⟨b0, b1, b2, b3⟩ := hb
    unfold loc at hw ⊢
    rw [hcode]
    by_cases k11 : kind (at0 l i).1 = 11
    · have hs := hsel (ja_rets hr ok (isJa_iff.2 k11)) true
      unfold sel at hs
      rw [hcode, if_pos k11] at hs
      rw [if_neg (by omega), if_neg (by omega), if_neg (by omega), if_neg (by omega), if_pos k11, if_neg (by omega)]
    · by_cases k12 : kind (at0 l i).1 = 12
      · have hrt : rets (at0 l i) = false := by unfold rets; rw [k12]; rfl
        have hs1 := hsel hrt true
        have hs2 := hsel hrt false
        unfold sel at hs1 hs2
        rw [hcode, if_neg k11, if_pos k12, if_pos rfl] at hs1
        rw [hcode, if_neg k11, if_pos k12, if_neg (by simp)] at hs2
        rw [if_neg (by omega), if_neg (by omega), if_neg (by omega), if_neg (by omega), if_neg (by omega), if_pos k12, if_neg (by omega)]
      · rw [hk k11]
        rw [if_neg k11, if_neg k12] at hw ⊢
        exact hw
  · have hj : (roundL l).length - 1 < (roundL l).length := by omega
    obtain ⟨i, hi, hc⟩ := rnd_of hj
    show rets (at0 (roundL l) ((roundL l).length - 1)) = true
    have ex : at0 (roundL l) ((roundL l).length - 1) = rndI (strL l) i := by rw [← hc]; exact rndL_at hi
    rw [ex, rets_code (rndI_code _ _), rets_code (strL_code l i)]
    cases hrt : rets (at0 l i) with
    | true => rfl
    | false =>
      exfalso
      have hrc := str_rch hr ok (nd_iff.1 hi).1 hrt true
      have h1 := cnt_lt (nn_nd hr ok hrc)
      rw [nn_cnt hr ok hrc] at h1
      have h2 := cnP_lt (nd (strL l)) (sel_gt true i (at0 (strL l) i)) hi
      have e : (rndL (strL l)).length = (roundL l).length := rfl
      unfold cnt at h1 hc
      omega
  · obtain ⟨i, hi, hc⟩ := rnd_of hj
    have hil := nd_lt hi
    rw [strL_len] at hil
    have ex : (roundL l)[j] = rndI (strL l) i := by rw [← at0_eq hj, ← hc]; exact rndL_at hi
    have hw := h5 i hil
    unfold raw at hw ⊢
    rw [List.getElem?_eq_getElem hil] at hw
    rw [List.getElem?_eq_getElem hj, ex]
    simp only at hw ⊢
    rw [← at0_eq hil] at hw
    have hcode : (rndI (strL l) i).1 = (at0 l i).1 := by rw [rndI_code, strL_code]
    have hrd : rdW (rndI (strL l) i) = rdW (at0 l i) := by unfold rdW; rw [hcode]
    rw [hrd]
    cases hd : rdW (at0 l i) with
    | false => rfl
    | true =>
      rw [hd, Bool.true_and] at hw
      rw [Bool.true_and]
      have k11 : kind (at0 l i).1 ≠ 11 := by
        intro e
        unfold rdW at hd
        rw [e] at hd
        cases hd
      have hk : (rndI (strL l) i).2.2.2 = (at0 l i).2.2.2 := by
        rw [rndI_k (by rw [strL_code]; exact k11), strL_at hil, strI_k k11]
      rw [hk]
      cases hb : bare (roundL l) (at0 l i).2.2.2 j with
      | false => rfl
      | true =>
        have : Bare l (at0 l i).2.2.2 i := round_bare hr ok hb i hi hc
        unfold Bare at this
        rw [hw] at this
        cases this
end Go.Proofs.Ytfmlefadifpocaa.M
namespace Go.Proofs.Ytfmlefadifpocaa.M
set_option linter.unusedVariables false
set_option linter.unusedSectionVars false

/-- an instruction with the same code, and the same number if it is no Ja, does the same, but for where it goes -/
theorem step_sim {x y : I} (hc : y.1 = x.1) (hk : kind x.1 ≠ 11 → y.2.2.2 = x.2.2.2) (okx : okI x) (oky : okI y) (r : List Int) {st : S} {i q : Nat} (hp : st.pc = i) (h0 : kind x.1 ≠ 0) (he : st.en = false) :
    ((stepI x r st).en = true ∧ stepI y r { st with pc := (q : Int) } = { stepI x r st with pc := (q : Int) }) ∨
    (∃ b, rets x = false ∧ (stepI x r st).en = false ∧ (stepI x r st).pc = (sel b i x : Nat) ∧ stepI y r { st with pc := (q : Int) } = { stepI x r st with pc := ((sel b q y : Nat) : Int) }) := by
  obtain ⟨c, t, f, k⟩ := x
  obtain ⟨c', t', f', k'⟩ := y
  obtain ⟨b0, b1, b2, b3⟩ := okx
  obtain ⟨d0, d1, d2, d3⟩ := oky
  simp only at b0 b1 b2 b3 d0 d1 d2 d3 hc hk h0
  subst hc
  have hle := kind_le c'
  have rF : kind c' ≠ 13 → kind c' ≠ 14 → rets (c', t, f, k) = false := fun h1 h2 => by
    unfold rets
    rw [Bool.or_eq_false_iff, beq_eq_false_iff_ne, beq_eq_false_iff_ne]; exact ⟨h1, h2⟩
  have sO : ∀ (b : Bool) (j : Nat) (u v z : Int), kind c' ≠ 11 → kind c' ≠ 12 → sel b j (c', u, v, z) = j + 1 := fun b j u v z h1 h2 => by
    unfold sel; simp only; rw [if_neg h1, if_neg h2]
  have pcI : st.pc + 1 = ((i + 1 : Nat) : Int) := by rw [hp]; omega
  have pcQ : (q : Int) + 1 = ((q + 1 : Nat) : Int) := by omega
  have cs : kind c' = 1 ∨ kind c' = 2 ∨ kind c' = 3 ∨ kind c' = 4 ∨ kind c' = 5 ∨ kind c' = 6 ∨ kind c' = 7 ∨ kind c' = 8 ∨ kind c' = 9 ∨ kind c' = 10 ∨ kind c' = 11 ∨ kind c' = 12 ∨ kind c' = 13 ∨ kind c' = 14 ∨ kind c' = 15 ∨ kind c' = 16 := by omega
  rcases cs with h | h | h | h | h | h | h | h | h | h | h | h | h | h | h | h
  · obtain rfl := hk (by omega)
    right; refine ⟨true, rF (by omega) (by omega), ?_, ?_, ?_⟩
    · rw [st1 h]; exact he
    · rw [st1 h, sO _ _ _ _ _ (by omega) (by omega)]; exact pcI
    · rw [st1 h, st1 h, sO _ _ _ _ _ (by omega) (by omega), ← pcQ]
  · obtain rfl := hk (by omega)
    right; refine ⟨true, rF (by omega) (by omega), ?_, ?_, ?_⟩
    · rw [st2 h]; exact he
    · rw [st2 h, sO _ _ _ _ _ (by omega) (by omega)]; exact pcI
    · rw [st2 h, st2 h, sO _ _ _ _ _ (by omega) (by omega), ← pcQ]
  · obtain rfl := hk (by omega)
    right; refine ⟨true, rF (by omega) (by omega), ?_, ?_, ?_⟩
    · rw [st3 h]; exact he
    · rw [st3 h, sO _ _ _ _ _ (by omega) (by omega)]; exact pcI
    · rw [st3 h, st3 h, sO _ _ _ _ _ (by omega) (by omega), ← pcQ]
  · obtain rfl := hk (by omega)
    right; refine ⟨true, rF (by omega) (by omega), ?_, ?_, ?_⟩
    · rw [st4 h]; exact he
    · rw [st4 h, sO _ _ _ _ _ (by omega) (by omega)]; exact pcI
    · rw [st4 h, st4 h, sO _ _ _ _ _ (by omega) (by omega), ← pcQ]
  · obtain rfl := hk (by omega)
    right; refine ⟨true, rF (by omega) (by omega), ?_, ?_, ?_⟩
    · rw [st5 h]; exact he
    · rw [st5 h, sO _ _ _ _ _ (by omega) (by omega)]; exact pcI
    · rw [st5 h, st5 h, sO _ _ _ _ _ (by omega) (by omega), ← pcQ]
  · obtain rfl := hk (by omega)
    right; refine ⟨true, rF (by omega) (by omega), ?_, ?_, ?_⟩
    · rw [st6 h]; exact he
    · rw [st6 h, sO _ _ _ _ _ (by omega) (by omega)]; exact pcI
    · rw [st6 h, st6 h, sO _ _ _ _ _ (by omega) (by omega), ← pcQ]
  · obtain rfl := hk (by omega)
    right; refine ⟨true, rF (by omega) (by omega), ?_, ?_, ?_⟩
    · rw [st7 h]; exact he
    · rw [st7 h, sO _ _ _ _ _ (by omega) (by omega)]; exact pcI
    · rw [st7 h, st7 h, sO _ _ _ _ _ (by omega) (by omega), ← pcQ]
  · obtain rfl := hk (by omega)
    right; refine ⟨true, rF (by omega) (by omega), ?_, ?_, ?_⟩
    · rw [st8 h]; exact he
    · rw [st8 h, sO _ _ _ _ _ (by omega) (by omega)]; exact pcI
    · rw [st8 h, st8 h, sO _ _ _ _ _ (by omega) (by omega), ← pcQ]
  · obtain rfl := hk (by omega)
    right; refine ⟨true, rF (by omega) (by omega), ?_, ?_, ?_⟩
    · rw [st9 h]; exact he
    · rw [st9 h, sO _ _ _ _ _ (by omega) (by omega)]; exact pcI
    · rw [st9 h, st9 h, sO _ _ _ _ _ (by omega) (by omega), ← pcQ]
  · obtain rfl := hk (by omega)
    have e1 : opI (c', t', f', k') = opI (c', t, f, k') := rfl
    have e2 : oth (c', t', f', k') { st with pc := (q : Int) } = oth (c', t, f, k') st := rfl
    rw [st10 h, st10 h, e1, e2]
    by_cases ha : WM.ok (opI (c', t, f, k')) (oth (c', t, f, k') st) = true
    · rw [if_pos ha, if_pos ha]
      right; refine ⟨true, rF (by omega) (by omega), he, ?_, ?_⟩
      · rw [sO _ _ _ _ _ (by omega) (by omega)]; exact pcI
      · rw [sO _ _ _ _ _ (by omega) (by omega), ← pcQ]
    · rw [if_neg ha, if_neg ha]
      exact .inl ⟨rfl, rfl⟩
  · right; refine ⟨true, rF (by omega) (by omega), ?_, ?_, ?_⟩
    · rw [st11 h]; exact he
    · rw [st11 h]
      unfold sel; simp only; rw [if_pos h, hp]; omega
    · rw [st11 h, st11 h]
      have e : (q : Int) + 1 + k' = ((sel true q (c', t', f', k') : Nat) : Int) := by unfold sel; simp only; rw [if_pos h]; omega
      rw [← e]
  · obtain rfl := hk (by omega)
    have e1 : opI (c', t', f', k') = opI (c', t, f, k') := rfl
    have e2 : oth (c', t', f', k') { st with pc := (q : Int) } = oth (c', t, f, k') st := rfl
    rw [st12 h, st12 h, e1, e2]
    obtain ⟨b, hb⟩ : ∃ b, WM.ask (opI (c', t, f, k')) st.a (oth (c', t, f, k') st) = b := ⟨_, rfl⟩
    right
    simp only [hb]
    refine ⟨b, rF (by omega) (by omega), he, ?_, ?_⟩
    · unfold sel; simp only; rw [if_neg (show ¬ kind c' = 11 by omega), if_pos h, hp]
      cases b with
      | true => rw [if_pos rfl, if_pos rfl]; omega
      | false => rw [if_neg (by simp), if_neg (by simp)]; omega
    · have e : (q : Int) + 1 + (if b = true then t' else f') = ((sel b q (c', t', f', k') : Nat) : Int) := by
        unfold sel; simp only; rw [if_neg (show ¬ kind c' = 11 by omega), if_pos h]
        cases b with
        | true => rw [if_pos rfl, if_pos rfl]; omega
        | false => rw [if_neg (by simp), if_neg (by simp)]; omega
      rw [← e]
  · obtain rfl := hk (by omega)
    rw [st13 h, st13 h]; exact .inl ⟨rfl, rfl⟩
  · obtain rfl := hk (by omega)
    rw [st14 h, st14 h]; exact .inl ⟨rfl, rfl⟩
  · obtain rfl := hk (by omega)
    right; refine ⟨true, rF (by omega) (by omega), ?_, ?_, ?_⟩
    · rw [st15 h]; exact he
    · rw [st15 h, sO _ _ _ _ _ (by omega) (by omega)]; exact pcI
    · rw [st15 h, st15 h, sO _ _ _ _ _ (by omega) (by omega), ← pcQ]
  · obtain rfl := hk (by omega)
    right; refine ⟨true, rF (by omega) (by omega), ?_, ?_, ?_⟩
    · rw [st16 h]; exact he
    · rw [st16 h, sO _ _ _ _ _ (by omega) (by omega)]; exact pcI
    · rw [st16 h, st16 h, sO _ _ _ _ _ (by omega) (by omega), ← pcQ]

/-- a run from a state on -/
def G (l : List I) (r : List Int) (st : S) : S × List Nat := go l r l.length st
/-- the instructions of a way but for its jumps, without their sides -/
def ev (l : List I) (T : List Nat) : List I := (T.filter fun z => !isJa (at0 l z)).map fun z => ((at0 l z).1, (0 : Int), (0 : Int), (at0 l z).2.2.2)
theorem ev_ja {l : List I} {z : Nat} (h : isJa (at0 l z) = true) (T : List Nat) : ev l (z :: T) = ev l T := by
  unfold ev; rw [List.filter_cons_of_neg (by rw [h]; simp)]
theorem ev_not {l : List I} {z : Nat} (h : isJa (at0 l z) = false) (T : List Nat) : ev l (z :: T) = ((at0 l z).1, (0 : Int), (0 : Int), (at0 l z).2.2.2) :: ev l T := by
  unfold ev; rw [List.filter_cons_of_pos (by rw [h]; rfl)]; rfl
theorem ev_pre {l : List I} : ∀ {P : List Nat}, (∀ z ∈ P, isJa (at0 l z) = true) → ∀ T, ev l (P ++ T) = ev l T := by
  intro P
  induction P with
  | nil => intro _ T; rfl
  | cons z P ih => intro h T; rw [List.cons_append, ev_ja (h z (by simp)), ih (fun a ha => h a (by simp [ha]))]
theorem ev_cons {l p : List I} {z z' : Nat} (hc : (at0 p z').1 = (at0 l z).1) (hk : kind (at0 l z).1 ≠ 11 → (at0 p z').2.2.2 = (at0 l z).2.2.2) {T T' : List Nat} (h : ev p T' = ev l T) : ev p (z' :: T') = ev l (z :: T) := by
  have hj : isJa (at0 p z') = isJa (at0 l z) := by unfold isJa; rw [hc]
  cases e : isJa (at0 l z) with
  | true => rw [ev_ja (by rw [hj]; exact e), ev_ja e, h]
  | false => rw [ev_not (by rw [hj]; exact e), ev_not e, h, hc, hk (isJa_not.1 e)]
theorem set_pc {st : S} {q : Int} (h : st.pc = q) : { st with pc := q } = st := by
  subst h; rfl

theorem kind0 {l : List I} (hr : right l) (ok : ∀ x ∈ l, okI x) {p : Nat} (hp : p < l.length) : kind (at0 l p).1 ≠ 0 := by
  intro h0
  have hw := ((right_iff l).1 hr).2.1 p hp
  unfold wrong at hw
  rw [List.getElem?_eq_getElem hp] at hw
  simp only [bne_eq_false_iff_eq] at hw
  rw [← at0_eq hp] at hw
  unfold loc at hw
  rw [if_pos h0] at hw
  cases hw
theorem go_same {l : List I} (hr : right l) (ok : ∀ x ∈ l, okI x) (r : List Int) : ∀ (d n m : Nat) (st : S) (p : Nat), st.pc = p → p < l.length → l.length ≤ p + d → d ≤ n → d ≤ m → go l r n st = go l r m st := by
  intro d
  induction d with
  | zero => intro n m st p _ h1 h2; omega
  | succ d ih =>
    intro n m st p hp hpl hd hn hm
    obtain ⟨n, rfl⟩ : ∃ a, n = a + 1 := ⟨n - 1, by omega⟩
    obtain ⟨m, rfl⟩ : ∃ a, m = a + 1 := ⟨m - 1, by omega⟩
    cases he : st.en with
    | true => rw [go_ended l r _ he, go_ended l r _ he]
    | false =>
      rw [go_on l r n he hp hpl, go_on l r m he hp hpl]
      rcases step_on hr ok r hp hpl he with ⟨h1, _⟩ | ⟨h1, q, h2, h3, h4⟩
      · rw [go_ended l r n h1, go_ended l r m h1]
      · rw [ih n m _ q h4 h3 (by omega) (by omega) (by omega)]
theorem G_on {l : List I} (hr : right l) (ok : ∀ x ∈ l, okI x) (r : List Int) {st : S} {p : Nat} (he : st.en = false) (hp : st.pc = p) (hpl : p < l.length) : G l r st = ((G l r (stepI (at0 l p) r st)).1, p :: (G l r (stepI (at0 l p) r st)).2) := by
  unfold G
  have e : go l r l.length st = go l r ((l.length - 1) + 1) st := by rw [show l.length - 1 + 1 = l.length by omega]
  rw [e, go_on l r _ he hp hpl, ← at0_eq hpl]
  have e2 : go l r (l.length - 1) (stepI (at0 l p) r st) = go l r l.length (stepI (at0 l p) r st) := by
    rw [at0_eq hpl]
    rcases step_on hr ok r hp hpl he with ⟨h1, _⟩ | ⟨h1, q, h2, h3, h4⟩
    · rw [go_ended l r _ h1, go_ended l r _ h1]
    · exact go_same hr ok r (l.length - q) _ _ _ q h4 h3 (by omega) (by omega) (by omega)
  rw [e2]
theorem ja_run {l : List I} (hr : right l) (ok : ∀ x ∈ l, okI x) (r : List Int) : ∀ (k a : Nat) (st : S), st.pc = a → a < l.length → st.en = false → ∃ P, (∀ z ∈ P, isJa (at0 l z) = true) ∧ G l r st = ((G l r { st with pc := ((jaN l k a : Nat) : Int) }).1, P ++ (G l r { st with pc := ((jaN l k a : Nat) : Int) }).2) := by
  intro k
  induction k with
  | zero =>
    intro a st hp ha he
    refine ⟨[], (fun z hz => by cases hz), ?_⟩
    have e : { st with pc := ((jaN l 0 a : Nat) : Int) } = st := set_pc hp
    rw [e]; rfl
  | succ k ih =>
    intro a st hp ha he
    cases e : isJa (at0 l a) with
    | false =>
      rw [jaN_not e]
      refine ⟨[], (fun z hz => by cases hz), ?_⟩
      rw [set_pc hp]; rfl
    | true =>
      rw [jaN_ja e]
      have hst : stepI (at0 l a) r st = { st with pc := ((tgt l a : Nat) : Int) } := by
        have hok := at0_ok ok a
        have hk := isJa_iff.1 e
        unfold tgt
        generalize at0 l a = x at *
        obtain ⟨c, t, f, k⟩ := x
        obtain ⟨_, _, _, b3⟩ := hok
        simp only at b3 hk
        rw [st11 hk, hp]
        simp only
        congr 1
        omega
      obtain ⟨P, h1, h2⟩ := ih (tgt l a) { st with pc := ((tgt l a : Nat) : Int) } rfl (tgt_lt hr ok e) he
      refine ⟨a :: P, fun z hz => ?_, ?_⟩
      · rcases List.mem_cons.1 hz with rfl | hz
        · exact e
        · exact h1 z hz
      · rw [G_on hr ok r he hp ha, hst, h2]; rfl
theorem sim {l : List I} (hr : right l) (ok : ∀ x ∈ l, okI x) (r : List Int) : ∀ (d i : Nat) (st : S), nd (strL l) i = true → l.length ≤ i + d → st.pc = i → st.en = false →
    (G (roundL l) r { st with pc := ((cnt (strL l) i : Nat) : Int) }).1.an = (G l r st).1.an ∧ ev (roundL l) (G (roundL l) r { st with pc := ((cnt (strL l) i : Nat) : Int) }).2 = ev l (G l r st).2 ∧ (G (roundL l) r { st with pc := ((cnt (strL l) i : Nat) : Int) }).2.length ≤ (G l r st).2.length := by
  intro d
  induction d with
  | zero =>
    intro i st hi hd _ _
    have := nd_lt hi
    rw [strL_len] at this
    omega
  | succ d ih =>
    intro i st hi hd hp he
    have hil := nd_lt hi
    rw [strL_len] at hil
    have hcl := cnt_lt hi
    have ex : at0 (roundL l) (cnt (strL l) i) = rndI (strL l) i := rndL_at hi
    have hcode : (at0 (roundL l) (cnt (strL l) i)).1 = (at0 l i).1 := by rw [ex, rndI_code, strL_code]
    have hk : kind (at0 l i).1 ≠ 11 → (at0 (roundL l) (cnt (strL l) i)).2.2.2 = (at0 l i).2.2.2 := fun h1 => by
      rw [ex, rndI_k (by rw [strL_code]; exact h1), strL_at hil, strI_k h1]
    have hgl := G_on hr ok r he hp hil
    have hgp := G_on (round_right hr ok) (rnd_ok hr ok) r (st := { st with pc := ((cnt (strL l) i : Nat) : Int) }) (p := cnt (strL l) i) he rfl hcl
    rw [hgl, hgp]
    rcases step_sim (y := at0 (roundL l) (cnt (strL l) i)) hcode hk (at0_ok ok i) (at0_ok (rnd_ok hr ok) _) r (q := cnt (strL l) i) hp (kind0 hr ok hil) he with ⟨h1, h2⟩ | ⟨b, h1, h2, h3, h4⟩
    · rw [h2]
      have g1 : G l r (stepI (at0 l i) r st) = (stepI (at0 l i) r st, []) := go_ended _ _ _ h1
      have g2 : G (roundL l) r { stepI (at0 l i) r st with pc := ((cnt (strL l) i : Nat) : Int) } = ({ stepI (at0 l i) r st with pc := ((cnt (strL l) i : Nat) : Int) }, []) := go_ended _ _ _ h1
      rw [g1, g2]
      exact ⟨rfl, ev_cons hcode hk rfl, Nat.le_refl _⟩
    · rw [h4, ex, rnd_sel hi]
      have hrc := str_rch hr ok (nd_iff.1 hi).1 h1 b
      obtain ⟨k1, e1⟩ := sel_str (l := l) b i
      obtain ⟨k2, e2⟩ := nn_ja hr ok hrc
      have hnd := nn_nd hr ok hrc
      have hcn := nn_cnt hr ok hrc
      have hul : sel b i (at0 l i) < l.length := beh_lt hr ok hil (mem_beh.2 (mem_sel.2 ⟨h1, b, rfl⟩))
      obtain ⟨P, hP, hG⟩ := ja_run hr ok r (k1 + k2) (sel b i (at0 l i)) (stepI (at0 l i) r st) h3 hul h2
      have et : jaN l (k1 + k2) (sel b i (at0 l i)) = nn (strL l) (sel b i (at0 (strL l) i)) := by
        rw [e2, strL_at hil, e1, jaN_add]
      rw [et] at hG
      have hgt : i < nn (strL l) (sel b i (at0 (strL l) i)) := by
        rw [e2]
        have := jaN_ge l k2 (sel b i (at0 (strL l) i))
        have := sel_gt b i (at0 (strL l) i)
        omega
      obtain ⟨i1, i2, i3⟩ := ih (nn (strL l) (sel b i (at0 (strL l) i))) { stepI (at0 l i) r st with pc := ((nn (strL l) (sel b i (at0 (strL l) i)) : Nat) : Int) } hnd (by omega) rfl h2
      simp only [hcn] at i1 i2 i3
      rw [hG]
      refine ⟨i1, ev_cons hcode hk ?_, ?_⟩
      · rw [ev_pre hP]; exact i2
      · simp only [List.length_cons, List.length_append]; omega
theorem round_run {l : List I} (hr : right l) (ok : ∀ x ∈ l, okI x) (r : List Int) : (run (roundL l) r).1.an = (run l r).1.an ∧ ev (roundL l) (run (roundL l) r).2 = ev l (run l r).2 ∧ (run (roundL l) r).2.length ≤ (run l r).2.length := by
  have h0 := len0 hr ok
  have hc := str0 hr ok
  obtain ⟨k, e⟩ := nn_ja hr ok hc
  obtain ⟨P, hP, hG⟩ := ja_run hr ok r k 0 s0 rfl h0 rfl
  rw [← e] at hG
  obtain ⟨i1, i2, i3⟩ := sim hr ok r l.length (nn (strL l) 0) { s0 with pc := ((nn (strL l) 0 : Nat) : Int) } (nn_nd hr ok hc) (by omega) rfl rfl
  have hcn := nn_cnt hr ok hc
  have hz : cnt (strL l) 0 = 0 := rfl
  simp only [hcn, hz] at i1 i2 i3
  have es : ({ s0 with pc := ((0 : Nat) : Int) } : S) = s0 := rfl
  rw [es] at i1 i2 i3
  have hl : run l r = G l r s0 := rfl
  have hp : run (roundL l) r = G (roundL l) r s0 := rfl
  rw [hl, hp, hG]
  refine ⟨i1, ?_, ?_⟩
  · rw [ev_pre hP]; exact i2
  · simp only [List.length_append]; omega
end Go.Proofs.Ytfmlefadifpocaa.M
