/-
  The ways through a filter, as plain functions: what is behind a place, what is reached, from how many places, the leaders, the blocks, the longest way.
-/
import Derived.Test.YtfmlefadifpocaaH6
namespace Go.Proofs.Ytfmlefadifpocaa.M
set_option linter.unusedVariables false

def at0 (l : List I) (i : Nat) : I := l.getD i (0, 0, 0, 0)
theorem at0_eq {l : List I} {i : Nat} (h : i < l.length) : at0 l i = l[i] := by
  unfold at0; rw [List.getD_eq_getElem?_getD, List.getElem?_eq_getElem h]; rfl
theorem at0_ok {l : List I} (ok : ∀ x ∈ l, okI x) (i : Nat) : okI (at0 l i) := by
  by_cases h : i < l.length
  · rw [at0_eq h]; exact ok _ (List.getElem_mem h)
  · unfold at0; rw [List.getD_eq_getElem?_getD, List.getElem?_eq_none (by omega)]
    exact ⟨by decide, by decide, by decide, by decide⟩
/-- the places behind one, each once, rising -/
def beh (i : Nat) (x : I) : List Nat :=
  if kind x.1 = 12 then (if x.2.1 = x.2.2.1 then [i + 1 + x.2.1.toNat] else if x.2.2.1 < x.2.1 then [i + 1 + x.2.2.1.toNat, i + 1 + x.2.1.toNat] else [i + 1 + x.2.1.toNat, i + 1 + x.2.2.1.toNat])
  else nxt i x
theorem beh_jif {i : Nat} {x : I} (h : kind x.1 = 12) : beh i x = if x.2.1 = x.2.2.1 then [i + 1 + x.2.1.toNat] else if x.2.2.1 < x.2.1 then [i + 1 + x.2.2.1.toNat, i + 1 + x.2.1.toNat] else [i + 1 + x.2.1.toNat, i + 1 + x.2.2.1.toNat] := by
  unfold beh; rw [if_pos h]
theorem beh_not {i : Nat} {x : I} (h : kind x.1 ≠ 12) : beh i x = nxt i x := by
  unfold beh; rw [if_neg h]
theorem nxt_jif {i : Nat} {x : I} (h : kind x.1 = 12) : nxt i x = [i + 1 + x.2.1.toNat, i + 1 + x.2.2.1.toNat] := by
  unfold nxt; rw [if_neg (by omega), if_pos h]
theorem nxt_ja {i : Nat} {x : I} (h : kind x.1 = 11) : nxt i x = [i + 1 + x.2.2.2.toNat] := by
  unfold nxt; rw [if_pos h]
theorem nxt_ret {i : Nat} {x : I} (h : kind x.1 = 13 ∨ kind x.1 = 14) : nxt i x = [] := by
  unfold nxt; rw [if_neg (by omega), if_neg (by omega), if_pos h]
theorem nxt_on {i : Nat} {x : I} (h : ¬ (11 ≤ kind x.1 ∧ kind x.1 ≤ 14)) : nxt i x = [i + 1] := by
  unfold nxt; rw [if_neg (by omega), if_neg (by omega), if_neg (by omega)]
theorem mem_beh {i j : Nat} {x : I} : j ∈ beh i x ↔ j ∈ nxt i x := by
  by_cases h : kind x.1 = 12
  · rw [beh_jif h, nxt_jif h]
    by_cases e : x.2.1 = x.2.2.1
    · rw [if_pos e, e]; simp
    · rw [if_neg e]
      split
      · simp only [List.mem_cons, List.not_mem_nil, or_false]
        exact Or.comm
      · exact Iff.rfl
  · rw [beh_not h]
theorem beh_gt {i j : Nat} {x : I} (h : j ∈ beh i x) : i < j := nxt_gt (mem_beh.1 h)
theorem beh_sorted {i : Nat} {x : I} (ok : okI x) : (beh i x).Pairwise (· < ·) := by
  have b1 := ok.2.1
  have b2 := ok.2.2.1
  by_cases h : kind x.1 = 12
  · rw [beh_jif h]
    by_cases e : x.2.1 = x.2.2.1
    · rw [if_pos e]; simp
    · rw [if_neg e]
      split
      · simp only [List.pairwise_cons, List.mem_cons, List.not_mem_nil, or_false, forall_eq, false_implies, implies_true, List.Pairwise.nil, and_true]; omega
      · simp only [List.pairwise_cons, List.mem_cons, List.not_mem_nil, or_false, forall_eq, false_implies, implies_true, List.Pairwise.nil, and_true]; omega
  · rw [beh_not h]
    by_cases h1 : kind x.1 = 11
    · rw [nxt_ja h1]; simp
    · by_cases h2 : kind x.1 = 13 ∨ kind x.1 = 14
      · rw [nxt_ret h2]; simp
      · rw [nxt_on (by omega)]; simp
theorem beh_nil {i : Nat} {x : I} : beh i x = [] ↔ kind x.1 = 13 ∨ kind x.1 = 14 := by
  by_cases h : kind x.1 = 12
  · rw [beh_jif h]
    refine ⟨fun e => ?_, fun e => by omega⟩
    split at e
    · cases e
    · split at e <;> cases e
  · rw [beh_not h]
    by_cases h1 : kind x.1 = 11
    · rw [nxt_ja h1]
      exact ⟨fun e => (by cases e), fun e => (by omega)⟩
    · by_cases h2 : kind x.1 = 13 ∨ kind x.1 = 14
      · rw [nxt_ret h2]; exact ⟨fun _ => h2, fun _ => rfl⟩
      · rw [nxt_on (by omega)]
        exact ⟨fun e => (by cases e), fun e => absurd e h2⟩
/-- neither a return nor a jump -/
def goesOn (x : I) : Bool := !(decide (11 ≤ kind x.1) && decide (kind x.1 ≤ 14))
theorem goesOn_iff {x : I} : goesOn x = true ↔ ¬ (11 ≤ kind x.1 ∧ kind x.1 ≤ 14) := by
  unfold goesOn
  rw [Bool.not_eq_true', Bool.and_eq_false_iff, decide_eq_false_iff_not, decide_eq_false_iff_not]
  omega
theorem beh_on {i : Nat} {x : I} (h : goesOn x = true) : beh i x = [i + 1] := by
  have h' := goesOn_iff.1 h
  rw [beh_not (by omega), nxt_on h']
def isJ (x : I) : Bool := decide (kind x.1 = 11) || decide (kind x.1 = 12)

/-- in a filter what is behind a place is a place of it -/
theorem beh_lt {l : List I} (hr : right l) (ok : ∀ x ∈ l, okI x) {i j : Nat} (hi : i < l.length) (h : j ∈ beh i (at0 l i)) : j < l.length := by
  rw [at0_eq hi] at h
  have := Way.on hr (p := i) (q := j) (written := fun _ => True) (written' := fun _ => True) ⟨hi, fun w hw => absurd trivial hw⟩ (mem_beh.1 h) (fun w hw => absurd trivial hw) ok
  exact this.2.1
/-- does a way come to it? -/
def rch (l : List I) (j : Nat) : Bool := bare l (-1) j
theorem wr_none {x : I} (ok : okI x) : wrW (-1) x = false := by
  have := ok.2.2.2.1
  unfold wrW
  have : (x.2.2.2 == -1) = false := by simp; omega
  rw [this]; simp
theorem rch_zero {l : List I} (h : 0 < l.length) : rch l 0 = true := Bare.zero h
theorem rch_step {l : List I} (ok : ∀ x ∈ l, okI x) {i j : Nat} (h : i < l.length) (hi : rch l i = true) (hj : j ∈ beh i (at0 l i)) (hl : j < l.length) : rch l j = true := by
  rw [at0_eq h] at hj
  exact Bare.step h hi (wr_none (ok _ (List.getElem_mem h))) (mem_beh.1 hj) hl
theorem rch_lt {l : List I} {i : Nat} (h : rch l i = true) : i < l.length := Bare.lt (l := l) (w := -1) h
/-- a place that is reached is the first one, or is behind a reached one -/
theorem rch_from {l : List I} {j : Nat} (h : rch l j = true) : j = 0 ∨ ∃ i, i < l.length ∧ rch l i = true ∧ j ∈ beh i (at0 l i) :=
  Bare.ind (l := l) (w := -1) (P := fun j => j = 0 ∨ ∃ i, i < l.length ∧ rch l i = true ∧ j ∈ beh i (at0 l i)) (fun _ => .inl rfl) (fun i j hi hb _ _ hj _ => .inr ⟨i, hi, hb, by rw [at0_eq hi]; exact mem_beh.2 hj⟩) h

/-- from how many of the first k reached places one comes to it -/
def intoK (l : List I) (k j : Nat) : Nat := ((List.range k).filter fun i => rch l i && (beh i (at0 l i)).contains j).length
theorem intoK_zero (l : List I) (j : Nat) : intoK l 0 j = 0 := rfl
theorem intoK_succ (l : List I) (k j : Nat) : intoK l (k + 1) j = intoK l k j + (if (rch l k && (beh k (at0 l k)).contains j) = true then 1 else 0) := by
  unfold intoK
  rw [List.range_succ, List.filter_append, List.length_append]
  congr 1
  simp only [List.filter_cons, List.filter_nil]
  split <;> simp
def into (l : List I) (j : Nat) : Nat := intoK l l.length j
theorem into_from {l : List I} {j : Nat} (h : 0 < into l j) : ∃ i, i < l.length ∧ rch l i = true ∧ j ∈ beh i (at0 l i) := by
  unfold into intoK at h
  obtain ⟨i, hi⟩ := List.exists_mem_of_length_pos h
  rw [List.mem_filter] at hi
  obtain ⟨h1, h2⟩ := hi
  simp only [Bool.and_eq_true, List.contains_iff_mem] at h2
  exact ⟨i, List.mem_range.1 h1, h2.1, h2.2⟩
/-- is it behind one of the first k places, a reached jump? -/
def jmpK (l : List I) (k j : Nat) : Bool := (List.range k).any fun i => rch l i && isJ (at0 l i) && (beh i (at0 l i)).contains j
theorem jmpK_zero (l : List I) (j : Nat) : jmpK l 0 j = false := rfl
theorem jmpK_succ (l : List I) (k j : Nat) : jmpK l (k + 1) j = (jmpK l k j || (rch l k && isJ (at0 l k) && (beh k (at0 l k)).contains j)) := by
  unfold jmpK
  rw [List.range_succ, List.any_append]
  simp
theorem jmpK_iff {l : List I} {k j : Nat} : jmpK l k j = true ↔ ∃ i, i < k ∧ rch l i = true ∧ isJ (at0 l i) = true ∧ j ∈ beh i (at0 l i) := by
  unfold jmpK
  rw [List.any_eq_true]
  constructor
  · rintro ⟨i, h1, h2⟩
    simp only [Bool.and_eq_true, List.contains_iff_mem] at h2
    exact ⟨i, List.mem_range.1 h1, h2.1.1, h2.1.2, h2.2⟩
  · rintro ⟨i, h1, h2, h3, h4⟩
    exact ⟨i, List.mem_range.2 h1, by simp only [Bool.and_eq_true, List.contains_iff_mem]; exact ⟨⟨h2, h3⟩, h4⟩⟩
/-- a leader -/
def lead (l : List I) (j : Nat) : Bool := decide (j = 0) || decide (1 < into l j) || jmpK l l.length j
theorem lead_zero (l : List I) : lead l 0 = true := rfl
theorem lead_rch {l : List I} (ok : ∀ x ∈ l, okI x) {j : Nat} (hj : j < l.length) (h : lead l j = true) : rch l j = true := by
  unfold lead at h
  rw [Bool.or_eq_true, Bool.or_eq_true, decide_eq_true_eq, decide_eq_true_eq] at h
  rcases h with (h | h) | h
  · subst h; exact rch_zero hj
  · obtain ⟨i, h1, h2, h3⟩ := into_from (show 0 < into l j by omega)
    exact rch_step ok h1 h2 h3 hj
  · obtain ⟨i, h1, h2, _, h3⟩ := jmpK_iff.1 h
    exact rch_step ok h1 h2 h3 hj
/-- a block's last place -/
def stp (l : List I) (i : Nat) : Bool := !goesOn (at0 l i) || lead l (i + 1)
def toF (l : List I) : Nat → Nat → Nat
  | 0, f => f
  | n + 1, f => if stp l f = true then f else toF l n (f + 1)
def toOf (l : List I) (f : Nat) : Nat := toF l (l.length - f) f
theorem last_stp {l : List I} (hr : right l) : stp l (l.length - 1) = true := by
  obtain ⟨⟨h1, _⟩, _, h4, _⟩ := (right_iff l).1 hr
  have h4 : rets (at0 l (l.length - 1)) = true := h4
  unfold stp goesOn
  unfold rets at h4
  simp only [Bool.or_eq_true, beq_iff_eq] at h4
  simp only [Bool.not_not, Bool.or_eq_true, Bool.and_eq_true, decide_eq_true_eq]
  exact .inl (by omega)
theorem toF_spec {l : List I} : ∀ (n f e : Nat), f ≤ e → e < f + n → stp l e = true → f ≤ toF l n f ∧ toF l n f ≤ e ∧ stp l (toF l n f) = true ∧ ∀ j, f ≤ j → j < toF l n f → stp l j = false := by
  intro n
  induction n with
  | zero => intro f e h1 h2; omega
  | succ n ih =>
    intro f e h1 h2 h3
    rw [toF]
    split
    · rename_i h
      exact ⟨Nat.le_refl _, h1, h, fun j a b => by omega⟩
    · rename_i h
      have hne : f ≠ e := fun e' => h (e' ▸ h3)
      obtain ⟨a, b, c, d⟩ := ih (f + 1) e (by omega) (by omega) h3
      refine ⟨by omega, b, c, fun j hj1 hj2 => ?_⟩
      by_cases e' : j = f
      · subst e'; simpa using h
      · exact d j (by omega) hj2
theorem toOf_spec {l : List I} (hr : right l) {f : Nat} (hf : f < l.length) : f ≤ toOf l f ∧ toOf l f < l.length ∧ stp l (toOf l f) = true ∧ ∀ j, f ≤ j → j < toOf l f → stp l j = false := by
  obtain ⟨a, b, c, d⟩ := toF_spec (l := l) (l.length - f) f (l.length - 1) (by omega) (by omega) (last_stp hr)
  exact ⟨a, by unfold toOf; omega, c, d⟩
theorem stp_not {l : List I} {i : Nat} (h : stp l i = false) : goesOn (at0 l i) = true ∧ lead l (i + 1) = false := by
  unfold stp at h
  rw [Bool.or_eq_false_iff] at h
  exact ⟨by simpa using h.1, h.2⟩
/-- all of a block is reached -/
theorem block_rch {l : List I} (hr : right l) (ok : ∀ x ∈ l, okI x) {f : Nat} (hf : rch l f = true) : ∀ j, f ≤ j → j ≤ toOf l f → rch l j = true := by
  have hfl := rch_lt hf
  obtain ⟨_, ht, _, hd⟩ := toOf_spec hr hfl
  intro j
  induction j with
  | zero => intro h1 _; have : f = 0 := by omega
            subst this; exact hf
  | succ j ih =>
    intro h1 h2
    by_cases e : f = j + 1
    · subst e; exact hf
    · have hj := ih (by omega) (by omega)
      have hs := stp_not (hd j (by omega) (by omega))
      exact rch_step ok (by omega) hj (by rw [beh_on hs.1]; simp) (by omega)
/-- each reached place is in a block -/
theorem block_of {l : List I} (hr : right l) (ok : ∀ x ∈ l, okI x) : ∀ j, rch l j = true → ∃ f, f ≤ j ∧ lead l f = true ∧ j ≤ toOf l f := by
  intro j
  induction j with
  | zero => intro h; exact ⟨0, Nat.le_refl _, rfl, Nat.zero_le _⟩
  | succ j ih =>
    intro h
    have hl := rch_lt h
    cases hd : lead l (j + 1) with
    | true => exact ⟨j + 1, Nat.le_refl _, hd, (toOf_spec hr hl).1⟩
    | false =>
      rcases rch_from h with h0 | ⟨i, h1, h2, h3⟩
      · omega
      · have hg : goesOn (at0 l i) = true := by
          cases hj : isJ (at0 l i) with
          | true =>
            have : lead l (j + 1) = true := by
              unfold lead
              rw [Bool.or_eq_true]
              exact .inr (jmpK_iff.2 ⟨i, h1, h2, hj, h3⟩)
            rw [hd] at this; cases this
          | false =>
            cases hgo : goesOn (at0 l i) with
            | true => rfl
            | false =>
              exfalso
              unfold goesOn at hgo
              unfold isJ at hj
              simp only [Bool.not_eq_false', Bool.and_eq_true, decide_eq_true_eq, Bool.or_eq_false_iff, decide_eq_false_iff_not] at hgo hj
              have := (beh_nil (i := i) (x := at0 l i)).2 (by omega)
              rw [this] at h3
              cases h3
        rw [beh_on hg] at h3
        have hij : i = j := by
          have : j + 1 = i + 1 := by simpa using h3
          omega
        subst hij
        obtain ⟨f, f1, f2, f3⟩ := ih h2
        refine ⟨f, by omega, f2, ?_⟩
        by_cases e : i = toOf l f
        · exfalso
          have := (toOf_spec hr (show f < l.length by omega)).2.2.1
          rw [← e] at this
          unfold stp at this
          rw [hg, hd] at this
          cases this
        · omega
/-- two blocks don't meet -/
theorem block_apart {l : List I} (hr : right l) {f f' : Nat} (h : f < f') (hf' : f' < l.length) (hl : lead l f' = true) : toOf l f < f' := by
  have hs : stp l (f' - 1) = true := by
    unfold stp
    rw [show f' - 1 + 1 = f' by omega, hl]
    simp
  obtain ⟨_, b, _, _⟩ := toF_spec (l := l) (l.length - f) f (f' - 1) (by omega) (by omega) hs
  unfold toOf
  omega
/-- what is behind a block's last place is a leader -/
theorem stp_lead {l : List I} {i j : Nat} (hi : i < l.length) (hc : rch l i = true) (hs : stp l i = true) (hj : j ∈ beh i (at0 l i)) : lead l j = true := by
  cases hg : goesOn (at0 l i) with
  | true =>
    rw [beh_on hg] at hj
    have e : j = i + 1 := by simpa using hj
    subst e
    unfold stp at hs
    rw [hg] at hs
    simpa using hs
  | false =>
    unfold lead
    rw [Bool.or_eq_true]
    refine .inr (jmpK_iff.2 ⟨i, hi, hc, ?_, hj⟩)
    unfold goesOn at hg
    simp only [Bool.not_eq_false', Bool.and_eq_true, decide_eq_true_eq] at hg
    by_cases h2 : kind (at0 l i).1 = 13 ∨ kind (at0 l i).1 = 14
    · rw [beh_nil.2 h2] at hj; cases hj
    · unfold isJ
      rw [Bool.or_eq_true, decide_eq_true_eq, decide_eq_true_eq]
      omega
end Go.Proofs.Ytfmlefadifpocaa.M
namespace Go.Proofs.Ytfmlefadifpocaa.M
set_option linter.unusedVariables false

/-- a leader's number: how many are ahead of it -/
def numb (l : List I) (j : Nat) : Nat := ((List.range j).filter (lead l)).length
theorem numb_zero (l : List I) : numb l 0 = 0 := rfl
theorem numb_succ (l : List I) (j : Nat) : numb l (j + 1) = numb l j + (if lead l j = true then 1 else 0) := by
  unfold numb
  rw [List.range_succ, List.filter_append, List.length_append]
  congr 1
  simp only [List.filter_cons, List.filter_nil]
  split <;> simp
theorem numb_mono (l : List I) {j k : Nat} (h : j ≤ k) : numb l j ≤ numb l k := by
  induction k with
  | zero => have : j = 0 := by omega
            subst this; exact Nat.le_refl _
  | succ k ih =>
    by_cases e : j = k + 1
    · subst e; exact Nat.le_refl _
    · have := ih (by omega)
      rw [numb_succ]; omega
theorem numb_lt (l : List I) {j k : Nat} (h : j < k) (hl : lead l j = true) : numb l j < numb l k := by
  have := numb_mono l (show j + 1 ≤ k by omega)
  rw [numb_succ, if_pos hl] at this
  omega
def leadsK (l : List I) (n : Nat) : List Nat := (List.range n).filter (lead l)
def leads (l : List I) : List Nat := leadsK l l.length
theorem leadsK_succ (l : List I) (n : Nat) : leadsK l (n + 1) = leadsK l n ++ (if lead l n = true then [n] else []) := by
  unfold leadsK
  rw [List.range_succ, List.filter_append]
  congr 1
  simp only [List.filter_cons, List.filter_nil]
theorem leadsK_len (l : List I) (n : Nat) : (leadsK l n).length = numb l n := rfl
theorem leadsK_get (l : List I) : ∀ (n j : Nat), j < n → lead l j = true → (leadsK l n)[numb l j]? = some j := by
  intro n
  induction n with
  | zero => intro j h; omega
  | succ n ih =>
    intro j h hl
    rw [leadsK_succ]
    by_cases e : j = n
    · subst e
      rw [if_pos hl, List.getElem?_append_right (by rw [leadsK_len]; exact Nat.le_refl _), leadsK_len]
      simp
    · have h1 := numb_lt l (show j < n by omega) hl
      rw [List.getElem?_append_left (by rw [leadsK_len]; exact h1)]
      exact ih j (by omega) hl
theorem leads_get {l : List I} {j : Nat} (hj : j < l.length) (hl : lead l j = true) : (leads l)[numb l j]? = some j := leadsK_get l _ j hj hl
theorem leads_mem {l : List I} {j : Nat} : j ∈ leads l ↔ j < l.length ∧ lead l j = true := by
  unfold leads leadsK
  rw [List.mem_filter, List.mem_range]
theorem leads_len (l : List I) : (leads l).length = numb l l.length := rfl
theorem leads_numb {l : List I} {i : Nat} (hi : i < (leads l).length) : numb l (leads l)[i] = i := by
  have hs : (leads l).Pairwise (· < ·) := List.Pairwise.filter _ List.pairwise_lt_range
  have hm := leads_mem.1 (List.getElem_mem hi)
  have hg := leads_get hm.1 hm.2
  obtain ⟨h1, h2⟩ := List.getElem?_eq_some_iff.1 hg
  rcases Nat.lt_trichotomy (numb l (leads l)[i]) i with h | h | h
  · have := List.pairwise_iff_getElem.1 hs _ _ h1 hi h
    omega
  · exact h
  · have := List.pairwise_iff_getElem.1 hs _ _ hi h1 h
    omega
theorem leads_sorted (l : List I) : (leads l).Pairwise (· < ·) := List.Pairwise.filter _ List.pairwise_lt_range
theorem leads_zero {l : List I} (h : 0 < l.length) : (leads l)[0]? = some 0 := leads_get h (lead_zero l)

/-- a block: its first and its last place, and the blocks behind it -/
structure Bk where
  f : Nat
  t : Nat
  n : List Nat
def blk (l : List I) (f : Nat) : Bk := ⟨f, toOf l f, (beh (toOf l f) (at0 l (toOf l f))).map (numb l)⟩
def blocks (l : List I) : List Bk := (leads l).map (blk l)
theorem blocks_len (l : List I) : (blocks l).length = (leads l).length := by unfold blocks; rw [List.length_map]
theorem blocks_get {l : List I} {i : Nat} (hi : i < (blocks l).length) : (blocks l)[i] = blk l ((leads l)[i]'(by rw [← blocks_len]; exact hi)) := by
  exact List.getElem_map (blk l)
theorem one_of : ∀ {l : List Nat} (hs : l.Pairwise (· < ·)) {p : Nat → Bool} {f : Nat} (hf : f ∈ l) (hp : ∀ x ∈ l, p x = true ↔ x = f), (l.filter p).length = 1 := by
  intro l
  induction l with
  | nil => intro _ p f hf; cases hf
  | cons a l ih =>
    intro hs p f hf hp
    obtain ⟨h1, h2⟩ := List.pairwise_cons.1 hs
    rcases List.mem_cons.1 hf with rfl | hf
    · have : l.filter p = [] := by
        rw [List.filter_eq_nil_iff]
        intro x hx e
        have := (hp x (List.mem_cons_of_mem _ hx)).1 e
        have := h1 x hx
        omega
      rw [List.filter_cons, if_pos ((hp f List.mem_cons_self).2 rfl), this]
      rfl
    · have hne : ¬ p a = true := fun e => by
        have := (hp a List.mem_cons_self).1 e
        have := h1 f hf
        omega
      rw [List.filter_cons, if_neg hne]
      exact ih h2 hf fun x hx => hp x (List.mem_cons_of_mem _ hx)
/-- in how many of the first m blocks a place is -/
def inK (l : List I) (m j : Nat) : Nat := (((leads l).take m).filter fun f => decide (f ≤ j) && decide (j ≤ toOf l f)).length
theorem inK_zero (l : List I) (j : Nat) : inK l 0 j = 0 := by simp [inK]
theorem inK_succ {l : List I} {m : Nat} (h : m < (leads l).length) (j : Nat) : inK l (m + 1) j = inK l m j + (if (leads l)[m] ≤ j ∧ j ≤ toOf l (leads l)[m] then 1 else 0) := by
  unfold inK
  rw [List.take_succ_eq_append_getElem h, List.filter_append, List.length_append]
  congr 1
  simp only [List.filter_cons, List.filter_nil, Bool.and_eq_true, decide_eq_true_eq]
  split <;> simp
theorem inK_all {l : List I} (hr : right l) (ok : ∀ x ∈ l, okI x) (j : Nat) : inK l (leads l).length j = if rch l j = true then 1 else 0 := by
  unfold inK
  rw [List.take_length]
  split
  · rename_i h
    obtain ⟨f, h1, h2, h3⟩ := block_of hr ok j h
    have hjl := rch_lt h
    refine one_of (leads_sorted l) (f := f) (leads_mem.2 ⟨by omega, h2⟩) fun x hx => ?_
    obtain ⟨x1, x2⟩ := leads_mem.1 hx
    rw [Bool.and_eq_true, decide_eq_true_eq, decide_eq_true_eq]
    constructor
    · rintro ⟨a, b⟩
      rcases Nat.lt_trichotomy x f with e | e | e
      · have := block_apart hr e (by omega) h2; omega
      · exact e
      · have := block_apart hr e x1 x2; omega
    · rintro rfl; exact ⟨h1, h3⟩
  · rename_i h
    have : (leads l).filter (fun f => decide (f ≤ j) && decide (j ≤ toOf l f)) = [] := by
      rw [List.filter_eq_nil_iff]
      intro f hf e
      rw [Bool.and_eq_true, decide_eq_true_eq, decide_eq_true_eq] at e
      obtain ⟨f1, f2⟩ := leads_mem.1 hf
      exact h (block_rch hr ok (lead_rch ok f1 f2) j e.1 e.2)
    rw [this]; rfl
/-- what is behind a block: leaders -/
theorem blk_next {l : List I} (hr : right l) (ok : ∀ x ∈ l, okI x) {f j : Nat} (hf : f < l.length) (hl : lead l f = true) (hj : j ∈ beh (toOf l f) (at0 l (toOf l f))) : j < l.length ∧ lead l j = true ∧ toOf l f < j := by
  obtain ⟨h1, h2, h3, _⟩ := toOf_spec hr hf
  have hc := block_rch hr ok (lead_rch ok hf hl) _ h1 (Nat.le_refl _)
  exact ⟨beh_lt hr ok h2 hj, stp_lead h2 hc h3 hj, beh_gt hj⟩
theorem blk_sorted {l : List I} (hr : right l) (ok : ∀ x ∈ l, okI x) {f : Nat} (hf : f < l.length) (hl : lead l f = true) : (blk l f).n.Pairwise (· < ·) := by
  show ((beh (toOf l f) (at0 l (toOf l f))).map (numb l)).Pairwise (· < ·)
  rw [List.pairwise_map]
  refine List.Pairwise.imp_of_mem (fun {a b} ha hb hab => ?_) (beh_sorted (i := toOf l f) (at0_ok ok (toOf l f)))
  exact numb_lt l hab (blk_next hr ok hf hl ha).2.1
theorem blk_gt {l : List I} (hr : right l) (ok : ∀ x ∈ l, okI x) {f m : Nat} (hf : f < l.length) (hl : lead l f = true) (hm : m ∈ (blk l f).n) : numb l f < m ∧ m < (leads l).length := by
  have hm : m ∈ (beh (toOf l f) (at0 l (toOf l f))).map (numb l) := hm
  obtain ⟨j, hj, rfl⟩ := List.mem_map.1 hm
  obtain ⟨h1, h2, h3⟩ := blk_next hr ok hf hl hj
  have := (toOf_spec hr hf).1
  exact ⟨numb_lt l (by omega) hl, by rw [leads_len]; exact numb_lt l h1 h2⟩

/-- the longest way, for so many steps -/
def farF (l : List I) : Nat → Nat → Nat
  | 0, _ => 0
  | n + 1, i => (beh i (at0 l i)).foldl (fun m j => max m (1 + farF l n j)) 1
theorem fold_ext {f g : Nat → Nat} : ∀ (js : List Nat) (m : Nat), (∀ j ∈ js, f j = g j) → js.foldl (fun m j => max m (1 + f j)) m = js.foldl (fun m j => max m (1 + g j)) m := by
  intro js
  induction js with
  | nil => intro m _; rfl
  | cons a js ih =>
    intro m h
    rw [List.foldl_cons, List.foldl_cons, h a List.mem_cons_self]
    exact ih _ fun j hj => h j (List.mem_cons_of_mem _ hj)
theorem fold_le {f : Nat → Nat} {B : Nat} : ∀ (js : List Nat) (m : Nat), m ≤ B → (∀ j ∈ js, 1 + f j ≤ B) → js.foldl (fun m j => max m (1 + f j)) m ≤ B := by
  intro js
  induction js with
  | nil => intro m h _; exact h
  | cons a js ih =>
    intro m h hb
    rw [List.foldl_cons]
    exact ih _ (by have := hb a List.mem_cons_self; omega) fun j hj => hb j (List.mem_cons_of_mem _ hj)
theorem fold_ge {f : Nat → Nat} : ∀ (js : List Nat) (m : Nat), m ≤ js.foldl (fun m j => max m (1 + f j)) m ∧ ∀ j ∈ js, 1 + f j ≤ js.foldl (fun m j => max m (1 + f j)) m := by
  intro js
  induction js with
  | nil => intro m; exact ⟨Nat.le_refl _, fun j hj => by cases hj⟩
  | cons a js ih =>
    intro m
    rw [List.foldl_cons]
    obtain ⟨h1, h2⟩ := ih (max m (1 + f a))
    refine ⟨by omega, fun j hj => ?_⟩
    rcases List.mem_cons.1 hj with rfl | hj
    · omega
    · exact h2 j hj
theorem farF_same {l : List I} (hr : right l) (ok : ∀ x ∈ l, okI x) : ∀ (d i n m : Nat), i < l.length → l.length ≤ i + d → d ≤ n → d ≤ m → farF l n i = farF l m i := by
  intro d
  induction d with
  | zero => intro i n m h1 h2; omega
  | succ d ih =>
    intro i n m h1 h2 h3 h4
    obtain ⟨n, rfl⟩ : ∃ k, n = k + 1 := ⟨n - 1, by omega⟩
    obtain ⟨m, rfl⟩ : ∃ k, m = k + 1 := ⟨m - 1, by omega⟩
    rw [farF, farF]
    refine fold_ext _ _ fun j hj => ?_
    have := beh_gt hj
    exact ih j n m (beh_lt hr ok h1 hj) (by omega) (by omega) (by omega)
def far (l : List I) (i : Nat) : Nat := farF l (l.length - i) i
theorem far_eq {l : List I} (hr : right l) (ok : ∀ x ∈ l, okI x) {i : Nat} (hi : i < l.length) : far l i = (beh i (at0 l i)).foldl (fun m j => max m (1 + far l j)) 1 := by
  unfold far
  rw [show l.length - i = (l.length - i - 1) + 1 by omega, farF]
  refine fold_ext _ _ fun j hj => ?_
  have h1 := beh_gt hj
  have h2 := beh_lt hr ok hi hj
  exact farF_same hr ok (l.length - j) j _ _ h2 (by omega) (by omega) (Nat.le_refl _)
/-- a way from a place on -/
def chn (l : List I) : Nat → List Nat → Prop
  | _, [] => True
  | p, q :: tl => q ∈ beh p (at0 l p) ∧ chn l q tl
theorem chn_far {l : List I} (hr : right l) (ok : ∀ x ∈ l, okI x) : ∀ (tl : List Nat) (p : Nat), p < l.length → chn l p tl → tl.length + 1 ≤ far l p := by
  intro tl
  induction tl with
  | nil =>
    intro p hp _
    rw [far_eq hr ok hp]
    exact (fold_ge _ _).1
  | cons q tl ih =>
    intro p hp h
    have hq := beh_lt hr ok hp h.1
    have h1 := ih q hq h.2
    have h2 := (fold_ge (f := far l) (beh p (at0 l p)) 1).2 q h.1
    rw [far_eq hr ok hp]
    simp only [List.length_cons]
    omega
/-- how many of the first k places are reached -/
def rchN (l : List I) (k : Nat) : Nat := ((List.range k).filter (rch l)).length
theorem rchN_succ (l : List I) (k : Nat) : rchN l (k + 1) = rchN l k + (if rch l k = true then 1 else 0) := by
  unfold rchN
  rw [List.range_succ, List.filter_append, List.length_append]
  congr 1
  simp only [List.filter_cons, List.filter_nil]
  split <;> simp
theorem rchN_mono (l : List I) {j k : Nat} (h : j ≤ k) : rchN l j ≤ rchN l k := by
  induction k with
  | zero => have : j = 0 := by omega
            subst this; exact Nat.le_refl _
  | succ k ih =>
    by_cases e : j = k + 1
    · subst e; exact Nat.le_refl _
    · have := ih (by omega)
      rw [rchN_succ]; omega
theorem rchN_le (l : List I) (k : Nat) : rchN l k ≤ k := by
  unfold rchN
  have := List.length_filter_le (rch l) (List.range k)
  rw [List.length_range] at this
  exact this
theorem far_rch {l : List I} (hr : right l) (ok : ∀ x ∈ l, okI x) : ∀ (d i : Nat), i < l.length → l.length ≤ i + d → rch l i = true → far l i + rchN l i ≤ rchN l l.length := by
  intro d
  induction d with
  | zero => intro i h1 h2; omega
  | succ d ih =>
    intro i h1 h2 h3
    have hs := rchN_succ l i
    rw [if_pos h3] at hs
    have hm := rchN_mono l (show i + 1 ≤ l.length by omega)
    rw [far_eq hr ok h1]
    have : (beh i (at0 l i)).foldl (fun m j => max m (1 + far l j)) 1 ≤ rchN l l.length - rchN l i := by
      refine fold_le _ _ (by omega) fun j hj => ?_
      have hg := beh_gt hj
      have hjl := beh_lt hr ok h1 hj
      have := ih j hjl (by omega) (rch_step ok h1 h3 hj hjl)
      have := rchN_mono l (show i + 1 ≤ j by omega)
      omega
    omega
theorem far_le {l : List I} (hr : right l) (ok : ∀ x ∈ l, okI x) : far l 0 ≤ rchN l l.length := by
  have h0 := ((right_iff l).1 hr).1.1
  have := far_rch hr ok l.length 0 h0 (by omega) (rch_zero h0)
  omega
/-- what a run does is a way -/
theorem go_chn {l : List I} (hr : right l) (ok : ∀ x ∈ l, okI x) (r : List Int) : ∀ (n : Nat) (s : S) (p : Nat), s.pc = p → p < l.length → s.en = false → ∀ tl, (go l r n s).2 = p :: tl → chn l p tl := by
  intro n
  induction n with
  | zero => intro s p _ _ _ tl h; cases h
  | succ n ih =>
    intro s p hp hpl he tl h
    rw [go_on l r n he hp hpl] at h
    simp only [List.cons.injEq, true_and] at h
    have hk : kind l[p].1 ≠ 0 := by
      intro h0
      have hw := ((right_iff l).1 hr).2.1 p hpl
      unfold wrong at hw
      rw [List.getElem?_eq_getElem hpl] at hw
      simp only [bne_eq_false_iff_eq] at hw
      unfold loc at hw
      rw [if_pos h0] at hw
      cases hw
    rcases step_next (ok _ (List.getElem_mem hpl)) r hp hk he with ⟨h1, _⟩ | ⟨h1, q, h2, h3⟩
    · rw [go_ended l r n h1] at h
      rw [← h]; trivial
    · have hq : q ∈ beh p (at0 l p) := by rw [at0_eq hpl]; exact mem_beh.2 h2
      have hql := beh_lt hr ok hpl hq
      cases n with
      | zero => rw [← h]; trivial
      | succ n =>
        have hg := go_on l r n h1 h3 hql
        rw [hg] at h
        rw [← h]
        exact ⟨hq, ih _ q h3 hql h1 _ (by rw [hg])⟩
theorem run_chn {l : List I} (hr : right l) (ok : ∀ x ∈ l, okI x) (r : List Int) : ∃ tl, (run l r).2 = 0 :: tl ∧ chn l 0 tl := by
  have h0 := ((right_iff l).1 hr).1.1
  obtain ⟨tl, e⟩ := (run_ends hr ok r).2.1
  exact ⟨tl, e, go_chn hr ok r l.length s0 0 rfl h0 rfl tl e⟩
theorem run_far {l : List I} (hr : right l) (ok : ∀ x ∈ l, okI x) (r : List Int) : (run l r).2.length ≤ far l 0 := by
  obtain ⟨tl, e, h⟩ := run_chn hr ok r
  rw [e]
  exact chn_far hr ok tl 0 ((right_iff l).1 hr).1.1 h
end Go.Proofs.Ytfmlefadifpocaa.M
