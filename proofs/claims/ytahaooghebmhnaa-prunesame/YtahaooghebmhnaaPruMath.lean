/-
  Where jumps end, and jumps that go straight, as plain functions.
-/
import Derived.Test.YtahaooghebmhnaaG1
namespace Go.Proofs.Ytahaooghebmhnaa.M
set_option linter.unusedVariables false

def isJa (x : I) : Bool := kind x.1 == 11
theorem isJa_iff {x : I} : isJa x = true ↔ kind x.1 = 11 := by unfold isJa; rw [beq_iff_eq]
theorem isJa_not {x : I} : isJa x = false ↔ kind x.1 ≠ 11 := by unfold isJa; rw [beq_eq_false_iff_ne]
theorem at0_out {l : List I} {i : Nat} (h : l.length ≤ i) : at0 l i = (0, 0, 0, 0) := by
  unfold at0; rw [List.getD_eq_getElem?_getD, List.getElem?_eq_none h]; rfl
theorem isJa_out {l : List I} {i : Nat} (h : l.length ≤ i) : isJa (at0 l i) = false := by
  rw [at0_out h]; decide
theorem ja_lt {l : List I} {i : Nat} (h : isJa (at0 l i) = true) : i < l.length := by
  by_cases e : i < l.length
  · exact e
  · rw [isJa_out (by omega)] at h; cases h
/-- a Ja's target -/
def tgt (l : List I) (i : Nat) : Nat := i + 1 + (at0 l i).2.2.2.toNat
theorem tgt_gt (l : List I) (i : Nat) : i < tgt l i := by unfold tgt; omega
theorem tgt_nxt {l : List I} {i : Nat} (h : isJa (at0 l i) = true) : nxt i (at0 l i) = [tgt l i] := nxt_ja (isJa_iff.1 h)
theorem tgt_beh {l : List I} {i : Nat} (h : isJa (at0 l i) = true) : beh i (at0 l i) = [tgt l i] := by
  rw [beh_not (by rw [isJa_iff.1 h]; decide), tgt_nxt h]
theorem tgt_lt {l : List I} (hr : right l) (ok : ∀ x ∈ l, okI x) {i : Nat} (h : isJa (at0 l i) = true) : tgt l i < l.length :=
  beh_lt hr ok (ja_lt h) (by rw [tgt_beh h]; simp)
/-- from Ja to Ja, so many times at most -/
def jaN (l : List I) : Nat → Nat → Nat
  | 0, i => i
  | n + 1, i => if isJa (at0 l i) = true then jaN l n (tgt l i) else i
theorem jaN_not {l : List I} {i : Nat} (h : isJa (at0 l i) = false) (n : Nat) : jaN l n i = i := by
  cases n with
  | zero => rfl
  | succ n => rw [jaN, if_neg (by rw [h]; simp)]
theorem jaN_ja {l : List I} {i : Nat} (h : isJa (at0 l i) = true) (n : Nat) : jaN l (n + 1) i = jaN l n (tgt l i) := by
  rw [jaN, if_pos h]
theorem jaN_add (l : List I) (m : Nat) : ∀ (n i : Nat), jaN l m (jaN l n i) = jaN l (n + m) i := by
  intro n
  induction n with
  | zero => intro i; rw [Nat.zero_add]; rfl
  | succ n ih =>
    intro i
    cases h : isJa (at0 l i) with
    | true => rw [jaN_ja h, ih, show n + 1 + m = (n + m) + 1 by omega, jaN_ja h]
    | false => rw [jaN_not h, jaN_not h, jaN_not h]
theorem jaN_ge (l : List I) : ∀ (n i : Nat), i ≤ jaN l n i := by
  intro n
  induction n with
  | zero => intro i; exact Nat.le_refl _
  | succ n ih =>
    intro i
    cases h : isJa (at0 l i) with
    | true => rw [jaN_ja h]; have := ih (tgt l i); have := tgt_gt l i; omega
    | false => rw [jaN_not h]; exact Nat.le_refl _
theorem jaN_lt {l : List I} (hr : right l) (ok : ∀ x ∈ l, okI x) : ∀ (n i : Nat), i < l.length → jaN l n i < l.length := by
  intro n
  induction n with
  | zero => intro i h; exact h
  | succ n ih =>
    intro i h
    cases e : isJa (at0 l i) with
    | true => rw [jaN_ja e]; exact ih _ (tgt_lt hr ok e)
    | false => rw [jaN_not e]; exact h
theorem jaN_far (l : List I) : ∀ (n i : Nat), isJa (at0 l (jaN l n i)) = true → i + n ≤ jaN l n i := by
  intro n
  induction n with
  | zero => intro i _; exact Nat.le_refl _
  | succ n ih =>
    intro i h
    cases e : isJa (at0 l i) with
    | true => rw [jaN_ja e] at h ⊢; have := ih _ h; have := tgt_gt l i; omega
    | false => rw [jaN_not e, e] at h; cases h
/-- the end of a place -/
def endOf (l : List I) (i : Nat) : Nat := jaN l l.length i
theorem endOf_stop (l : List I) (i : Nat) : isJa (at0 l (endOf l i)) = false := by
  cases h : isJa (at0 l (endOf l i)) with
  | false => rfl
  | true =>
    have := jaN_far l l.length i h
    have := ja_lt h
    unfold endOf at this
    omega
theorem endOf_not {l : List I} {i : Nat} (h : isJa (at0 l i) = false) : endOf l i = i := jaN_not h _
theorem endOf_ja {l : List I} {i : Nat} (h : isJa (at0 l i) = true) : endOf l i = endOf l (tgt l i) := by
  have hl := ja_lt h
  have e1 : endOf l i = jaN l (l.length - 1) (tgt l i) := by
    unfold endOf
    rw [show l.length = (l.length - 1) + 1 by omega, jaN_ja h, Nat.add_sub_cancel]
  have e2 : endOf l (tgt l i) = jaN l 1 (endOf l i) := by
    rw [e1, jaN_add]
    unfold endOf
    rw [show l.length - 1 + 1 = l.length by omega]
  rw [e2, jaN_not (endOf_stop l i)]
theorem endOf_ge (l : List I) (i : Nat) : i ≤ endOf l i := jaN_ge l _ i
theorem endOf_gt {l : List I} {i : Nat} (h : isJa (at0 l i) = true) : tgt l i ≤ endOf l i := by rw [endOf_ja h]; exact endOf_ge _ _
theorem endOf_lt {l : List I} (hr : right l) (ok : ∀ x ∈ l, okI x) {i : Nat} (h : i < l.length) : endOf l i < l.length := jaN_lt hr ok _ i h
theorem endOf_jaN (l : List I) : ∀ (n i : Nat), endOf l (jaN l n i) = endOf l i := by
  intro n
  induction n with
  | zero => intro i; rfl
  | succ n ih =>
    intro i
    cases h : isJa (at0 l i) with
    | true => rw [jaN_ja h, ih, ← endOf_ja h]
    | false => rw [jaN_not h]
/-- where a side of a question goes: from Ja to Ja, while that is near enough -/
def strN (l : List I) (f : Nat) : Nat → Nat → Nat
  | 0, t => t
  | n + 1, t => if isJa (at0 l t) = true ∧ tgt l t ≤ f + 256 then strN l f n (tgt l t) else t
theorem strN_go {l : List I} {f t : Nat} (h : isJa (at0 l t) = true ∧ tgt l t ≤ f + 256) (n : Nat) : strN l f (n + 1) t = strN l f n (tgt l t) := by
  rw [strN, if_pos h]
theorem strN_no {l : List I} {f t : Nat} (h : ¬ (isJa (at0 l t) = true ∧ tgt l t ≤ f + 256)) (n : Nat) : strN l f n t = t := by
  cases n with
  | zero => rfl
  | succ n => rw [strN, if_neg h]
theorem strN_jaN (l : List I) (f : Nat) : ∀ (n t : Nat), ∃ k, strN l f n t = jaN l k t := by
  intro n
  induction n with
  | zero => intro t; exact ⟨0, rfl⟩
  | succ n ih =>
    intro t
    by_cases h : isJa (at0 l t) = true ∧ tgt l t ≤ f + 256
    · obtain ⟨k, e⟩ := ih (tgt l t)
      exact ⟨k + 1, by rw [strN_go h, jaN_ja h.1, e]⟩
    · exact ⟨0, by rw [strN_no h]; rfl⟩
theorem strN_near (l : List I) (f : Nat) : ∀ (n t : Nat), t ≤ f + 256 → strN l f n t ≤ f + 256 := by
  intro n
  induction n with
  | zero => intro t h; exact h
  | succ n ih =>
    intro t h
    by_cases e : isJa (at0 l t) = true ∧ tgt l t ≤ f + 256
    · rw [strN_go e]; exact ih _ e.2
    · rw [strN_no e]; exact h
theorem strN_far (l : List I) (f : Nat) : ∀ (n t : Nat), (isJa (at0 l (strN l f n t)) = true ∧ tgt l (strN l f n t) ≤ f + 256) → t + n ≤ strN l f n t := by
  intro n
  induction n with
  | zero => intro t _; exact Nat.le_refl _
  | succ n ih =>
    intro t h
    by_cases e : isJa (at0 l t) = true ∧ tgt l t ≤ f + 256
    · rw [strN_go e] at h ⊢; have := ih _ h; have := tgt_gt l t; omega
    · rw [strN_no e] at h; exact absurd h e
def strt (l : List I) (f t : Nat) : Nat := strN l f l.length t
theorem strt_stop (l : List I) (f t : Nat) : ¬ (isJa (at0 l (strt l f t)) = true ∧ tgt l (strt l f t) ≤ f + 256) := by
  intro h
  have h1 := strN_far l f l.length t h
  have h2 := ja_lt h.1
  unfold strt at h2
  omega
theorem strt_ge (l : List I) (f t : Nat) : t ≤ strt l f t := by
  obtain ⟨k, e⟩ := strN_jaN l f l.length t
  unfold strt; rw [e]; exact jaN_ge l k t
theorem strt_near {l : List I} {f t : Nat} (h : t ≤ f + 256) : strt l f t ≤ f + 256 := strN_near l f _ t h
theorem strt_jaN (l : List I) (f t : Nat) : ∃ k, strt l f t = jaN l k t := strN_jaN l f _ t
theorem strt_lt {l : List I} (hr : right l) (ok : ∀ x ∈ l, okI x) {f t : Nat} (h : t < l.length) : strt l f t < l.length := by
  obtain ⟨k, e⟩ := strt_jaN l f t
  rw [e]; exact jaN_lt hr ok k t h
/-- an instruction whose jumps go straight -/
def strI (l : List I) (i : Nat) : I :=
  if kind (at0 l i).1 = 11 then ((at0 l i).1, (at0 l i).2.1, (at0 l i).2.2.1, ((endOf l i - i - 1 : Nat) : Int))
  else if kind (at0 l i).1 = 12 then ((at0 l i).1, ((strt l i (i + 1 + (at0 l i).2.1.toNat) - i - 1 : Nat) : Int), ((strt l i (i + 1 + (at0 l i).2.2.1.toNat) - i - 1 : Nat) : Int), (at0 l i).2.2.2)
  else at0 l i
def strL (l : List I) : List I := (List.range l.length).map (strI l)
theorem strL_len (l : List I) : (strL l).length = l.length := by unfold strL; rw [List.length_map, List.length_range]
theorem strL_at {l : List I} {i : Nat} (h : i < l.length) : at0 (strL l) i = strI l i := by
  rw [at0_eq (by rw [strL_len]; exact h)]
  unfold strL
  rw [List.getElem_map, List.getElem_range]
theorem strI_ja {l : List I} {i : Nat} (h : isJa (at0 l i) = true) : strI l i = ((at0 l i).1, (at0 l i).2.1, (at0 l i).2.2.1, ((endOf l i - i - 1 : Nat) : Int)) := by
  unfold strI; rw [if_pos (isJa_iff.1 h)]
theorem strI_jif {l : List I} {i : Nat} (h : kind (at0 l i).1 = 12) : strI l i = ((at0 l i).1, ((strt l i (i + 1 + (at0 l i).2.1.toNat) - i - 1 : Nat) : Int), ((strt l i (i + 1 + (at0 l i).2.2.1.toNat) - i - 1 : Nat) : Int), (at0 l i).2.2.2) := by
  unfold strI; rw [if_neg (by omega), if_pos h]
theorem strI_no {l : List I} {i : Nat} (h1 : kind (at0 l i).1 ≠ 11) (h2 : kind (at0 l i).1 ≠ 12) : strI l i = at0 l i := by
  unfold strI; rw [if_neg h1, if_neg h2]
theorem strI_code (l : List I) (i : Nat) : (strI l i).1 = (at0 l i).1 := by
  unfold strI
  split
  · rfl
  · split <;> rfl
theorem strI_k {l : List I} {i : Nat} (h : kind (at0 l i).1 ≠ 11) : (strI l i).2.2.2 = (at0 l i).2.2.2 := by
  unfold strI
  rw [if_neg h]
  split <;> rfl
theorem strL_code (l : List I) (i : Nat) : (at0 (strL l) i).1 = (at0 l i).1 := by
  by_cases h : i < l.length
  · rw [strL_at h, strI_code]
  · rw [at0_out (by rw [strL_len]; omega), at0_out (by omega)]
theorem strL_ja (l : List I) (i : Nat) : isJa (at0 (strL l) i) = isJa (at0 l i) := by unfold isJa; rw [strL_code]
theorem strL_tgt {l : List I} {i : Nat} (h : isJa (at0 l i) = true) : tgt (strL l) i = endOf l i := by
  have h1 := endOf_gt h
  have h2 := tgt_gt l i
  unfold tgt
  rw [strL_at (ja_lt h), strI_ja h]
  simp only [Int.toNat_natCast]
  omega
theorem strL_end (l : List I) (i : Nat) : endOf (strL l) i = endOf l i := by
  cases h : isJa (at0 l i) with
  | false => rw [endOf_not h, endOf_not (by rw [strL_ja]; exact h)]
  | true =>
    rw [endOf_ja (by rw [strL_ja]; exact h), strL_tgt h]
    exact endOf_not (by rw [strL_ja]; exact endOf_stop l i)
theorem strL_strt (l : List I) (f t : Nat) : strt (strL l) f (strt l f t) = strt l f t := by
  refine strN_no ?_ _
  rw [strL_ja]
  rintro ⟨h1, h2⟩
  rw [strL_tgt h1] at h2
  have := endOf_gt h1
  exact strt_stop l f t ⟨h1, by omega⟩
theorem strL_strL (l : List I) : strL (strL l) = strL l := by
  have e : strL (strL l) = (List.range l.length).map (strI (strL l)) := by
    have := strL_len l
    show (List.range (strL l).length).map _ = _
    rw [this]
  rw [e]
  show _ = (List.range l.length).map (strI l)
  refine List.map_congr_left fun i hi => ?_
  have hi := List.mem_range.1 hi
  have hc := strL_at hi
  by_cases h1 : kind (at0 l i).1 = 11
  · have hj := isJa_iff.2 h1
    rw [strI_ja (by rw [strL_ja]; exact hj), strL_end, hc, strI_ja hj]
  · by_cases h2 : kind (at0 l i).1 = 12
    · rw [strI_jif (by rw [strL_code]; exact h2), hc, strI_jif h2]
      have g1 := strt_ge l i (i + 1 + (at0 l i).2.1.toNat)
      have g2 := strt_ge l i (i + 1 + (at0 l i).2.2.1.toNat)
      simp only [Int.toNat_natCast]
      rw [show i + 1 + (strt l i (i + 1 + (at0 l i).2.1.toNat) - i - 1) = strt l i (i + 1 + (at0 l i).2.1.toNat) by omega,
        show i + 1 + (strt l i (i + 1 + (at0 l i).2.2.1.toNat) - i - 1) = strt l i (i + 1 + (at0 l i).2.2.1.toNat) by omega, strL_strt, strL_strt]
    · rw [strI_no (by rw [strL_code]; exact h1) (by rw [strL_code]; exact h2), hc]
theorem strI_ok {l : List I} (hr : right l) (ok : ∀ x ∈ l, okI x) (i : Nat) : okI (strI l i) := by
  have h0 := at0_ok ok i
  obtain ⟨a0, a1, a2, a3⟩ := h0
  by_cases hi : i < l.length
  · have hn := ((right_iff l).1 hr).1.2
    by_cases h1 : kind (at0 l i).1 = 11
    · rw [strI_ja (isJa_iff.2 h1)]
      have := endOf_lt hr ok hi
      exact ⟨a0, a1, a2, by simp only; omega⟩
    · by_cases h2 : kind (at0 l i).1 = 12
      · rw [strI_jif h2]
        have g1 := strt_near (l := l) (f := i) (t := i + 1 + (at0 l i).2.1.toNat) (by omega)
        have g2 := strt_near (l := l) (f := i) (t := i + 1 + (at0 l i).2.2.1.toNat) (by omega)
        exact ⟨a0, by simp only; omega, by simp only; omega, a3⟩
      · rw [strI_no h1 h2]; exact ⟨a0, a1, a2, a3⟩
  · rw [strI_no (by rw [at0_out (by omega)]; decide) (by rw [at0_out (by omega)]; decide)]; exact ⟨a0, a1, a2, a3⟩
theorem strL_ok {l : List I} (hr : right l) (ok : ∀ x ∈ l, okI x) : ∀ x ∈ strL l, okI x := by
  intro x hx
  obtain ⟨i, _, rfl⟩ := List.mem_map.1 hx
  exact strI_ok hr ok i

/-- where an instruction goes on: by the one side or the other of a question -/
def sel (b : Bool) (i : Nat) (x : I) : Nat := if kind x.1 = 11 then i + 1 + x.2.2.2.toNat else if kind x.1 = 12 then (if b = true then i + 1 + x.2.1.toNat else i + 1 + x.2.2.1.toNat) else i + 1
theorem sel_gt (b : Bool) (i : Nat) (x : I) : i < sel b i x := by
  unfold sel
  split
  · omega
  · split
    · split <;> omega
    · omega
theorem mem_sel {i j : Nat} {x : I} : j ∈ nxt i x ↔ rets x = false ∧ ∃ b, j = sel b i x := by
  have hR : rets x = false ↔ ¬ (kind x.1 = 13 ∨ kind x.1 = 14) := by
    unfold rets
    rw [Bool.or_eq_false_iff, beq_eq_false_iff_ne, beq_eq_false_iff_ne]; omega
  by_cases h1 : kind x.1 = 11
  · have e : ∀ b, sel b i x = i + 1 + x.2.2.2.toNat := fun b => by unfold sel; rw [if_pos h1]
    rw [nxt_ja h1, hR]
    simp only [List.mem_singleton, e]
    exact ⟨fun h => ⟨by omega, true, h⟩, fun ⟨_, _, h⟩ => h⟩
  · by_cases h2 : kind x.1 = 12
    · have e1 : sel true i x = i + 1 + x.2.1.toNat := by unfold sel; rw [if_neg h1, if_pos h2, if_pos rfl]
      have e2 : sel false i x = i + 1 + x.2.2.1.toNat := by unfold sel; rw [if_neg h1, if_pos h2, if_neg (by simp)]
      rw [nxt_jif h2, hR]
      simp only [List.mem_cons, List.not_mem_nil, or_false]
      constructor
      · rintro (h | h)
        · exact ⟨by omega, true, by rw [e1]; exact h⟩
        · exact ⟨by omega, false, by rw [e2]; exact h⟩
      · rintro ⟨_, b, h⟩
        cases b with
        | true => rw [e1] at h; exact .inl h
        | false => rw [e2] at h; exact .inr h
    · have e : ∀ b, sel b i x = i + 1 := fun b => by unfold sel; rw [if_neg h1, if_neg h2]
      by_cases h3 : kind x.1 = 13 ∨ kind x.1 = 14
      · rw [nxt_ret h3, hR]
        exact ⟨fun h => (by cases h), fun h => absurd h3 h.1⟩
      · rw [nxt_on (by omega), hR]
        simp only [List.mem_singleton, e]
        exact ⟨fun h => ⟨h3, true, h⟩, fun ⟨_, _, h⟩ => h⟩
/-- straight: the same way, from Ja to Ja -/
theorem sel_str {l : List I} (b : Bool) (i : Nat) : ∃ k, sel b i (strI l i) = jaN l k (sel b i (at0 l i)) := by
  by_cases h1 : kind (at0 l i).1 = 11
  · have hj := isJa_iff.2 h1
    have e : sel b i (at0 l i) = tgt l i := by unfold sel; rw [if_pos h1]; rfl
    have e2 : sel b i (strI l i) = endOf l i := by
      have g1 := endOf_gt hj
      have g2 := tgt_gt l i
      unfold sel
      rw [strI_code, if_pos h1, strI_ja hj]
      simp only [Int.toNat_natCast]
      omega
    exact ⟨l.length, by rw [e, e2, endOf_ja hj]; rfl⟩
  · by_cases h2 : kind (at0 l i).1 = 12
    · have g1 := strt_ge l i (i + 1 + (at0 l i).2.1.toNat)
      have g2 := strt_ge l i (i + 1 + (at0 l i).2.2.1.toNat)
      unfold sel
      rw [strI_code, if_neg h1, if_neg h1, if_pos h2, if_pos h2, strI_jif h2]
      simp only [Int.toNat_natCast]
      cases b with
      | true =>
        obtain ⟨k, e⟩ := strt_jaN l i (i + 1 + (at0 l i).2.1.toNat)
        exact ⟨k, by rw [if_pos rfl, if_pos rfl, ← e]; omega⟩
      | false =>
        obtain ⟨k, e⟩ := strt_jaN l i (i + 1 + (at0 l i).2.2.1.toNat)
        exact ⟨k, by rw [if_neg (by simp), if_neg (by simp), ← e]; omega⟩
    · exact ⟨0, by rw [strI_no h1 h2]; rfl⟩
end Go.Proofs.Ytahaooghebmhnaa.M
