/-
  What is wrong with an instruction alone, the ways of a program, and which words are not written for sure, as plain functions over lists.
-/
import Derived.Test.YtcojhfppipdfoaaInsMath
import Derived.Test.YtcojhfppipdfoaaCodMath
namespace Go.Proofs.Ytcojhfppipdfoaa.M
set_option linter.unusedVariables false

/-- what is wrong with an instruction alone, at place i of n -/
def loc (n i : Nat) (x : I) : Int :=
  if kind x.1 = 0 then 6
  else if kind x.1 = 1 then (if 64 ≤ x.2.2.2 ∨ x.2.2.2 % 4 ≠ 0 then 11 else 0)
  else if kind x.1 = 4 ∨ kind x.1 = 6 ∨ kind x.1 = 8 ∨ kind x.1 = 9 then (if 16 ≤ x.2.2.2 then 10 else 0)
  else if kind x.1 = 10 then (if x.1 = 52 ∧ x.2.2.2 = 0 then 8 else if (x.1 = 100 ∨ x.1 = 116) ∧ 32 ≤ x.2.2.2 then 9 else 0)
  else if kind x.1 = 11 then (if (n : Int) ≤ i + 1 + x.2.2.2 then 7 else 0)
  else if kind x.1 = 12 then (if (n : Int) ≤ i + 1 + x.2.1 ∨ (n : Int) ≤ i + 1 + x.2.2.1 then 7 else 0)
  else 0
/-- the places that come behind place i -/
def nxt (i : Nat) (x : I) : List Nat :=
  if kind x.1 = 11 then [i + 1 + x.2.2.2.toNat]
  else if kind x.1 = 12 then [i + 1 + x.2.1.toNat, i + 1 + x.2.2.1.toNat]
  else if kind x.1 = 13 ∨ kind x.1 = 14 then []
  else [i + 1]
/-- does it write the word? -/
def wrW (w : Int) (x : I) : Bool := (kind x.1 == 8 || kind x.1 == 9) && x.2.2.2 == w
/-- does it read a word? -/
def rdW (x : I) : Bool := kind x.1 == 4 || kind x.1 == 6
def rets (x : I) : Bool := kind x.1 == 13 || kind x.1 == 14
theorem nxt_gt {i j : Nat} {x : I} (h : j ∈ nxt i x) : i < j := by
  unfold nxt at h
  split at h
  · simp at h; omega
  · split at h
    · simp at h; omega
    · split at h
      · simp at h
      · simp at h; omega

/-- which places some way from the first one comes to that writes the word nowhere, as it is reckoned: place by place -/
def setAll (o : List Bool) (js : List Nat) : List Bool := js.foldl (fun o j => o.set j true) o
def stepW (l : List I) (w : Int) (o : List Bool) (i : Nat) : List Bool := match l[i]? with
  | none => o
  | some x => if (o.getD i false && !wrW w x) = true then setAll o (nxt i x) else o
def outAt (l : List I) (w : Int) : Nat → List Bool
  | 0 => (List.replicate l.length false).set 0 true
  | i + 1 => stepW l w (outAt l w i) i
def bare (l : List I) (w : Int) (i : Nat) : Bool := (outAt l w l.length).getD i false

theorem setAll_len (js : List Nat) : ∀ o : List Bool, (setAll o js).length = o.length := by
  induction js with
  | nil => intro o; rfl
  | cons j js ih => intro o; unfold setAll at *; rw [List.foldl_cons, ih, List.length_set]
theorem set_getD (o : List Bool) (j i : Nat) : (o.set j true).getD i false = (decide (j = i ∧ i < o.length) || o.getD i false) := by
  rw [List.getD_eq_getElem?_getD, List.getD_eq_getElem?_getD, List.getElem?_set]
  by_cases h : j = i
  · subst h
    by_cases h' : j < o.length
    · simp [h']
    · simp [h']
  · simp [h]
theorem setAll_getD (js : List Nat) : ∀ (o : List Bool) (i : Nat), (setAll o js).getD i false = (decide (i ∈ js ∧ i < o.length) || o.getD i false) := by
  induction js with
  | nil => intro o i; simp [setAll]
  | cons j js ih =>
    intro o i
    have e : setAll o (j :: js) = setAll (o.set j true) js := rfl
    rw [e, ih, set_getD, List.length_set]
    by_cases h1 : i ∈ js <;> by_cases h2 : j = i <;> by_cases h3 : i < o.length <;> simp [h1, h2, h3, eq_comm]
theorem stepW_len (l : List I) (w : Int) (o : List Bool) (i : Nat) : (stepW l w o i).length = o.length := by
  unfold stepW
  split
  · rfl
  · split
    · exact setAll_len _ _
    · rfl
theorem outAt_len (l : List I) (w : Int) (i : Nat) : (outAt l w i).length = l.length := by
  induction i with
  | zero => simp [outAt]
  | succ i ih => rw [outAt, stepW_len, ih]
theorem outAt_succ (l : List I) (w : Int) (i j : Nat) : (outAt l w (i + 1)).getD j false = true ↔ (outAt l w i).getD j false = true ∨ ∃ h : i < l.length, (outAt l w i).getD i false = true ∧ wrW w l[i] = false ∧ j ∈ nxt i l[i] ∧ j < l.length := by
  rw [outAt]
  unfold stepW
  by_cases h : i < l.length
  · rw [List.getElem?_eq_getElem h]
    simp only
    split
    · rename_i hc
      rw [Bool.and_eq_true, Bool.not_eq_true'] at hc
      rw [setAll_getD, Bool.or_eq_true, decide_eq_true_eq, outAt_len]
      constructor
      · rintro (⟨h1, h2⟩ | h1)
        · exact Or.inr ⟨h, hc.1, hc.2, h1, h2⟩
        · exact Or.inl h1
      · rintro (h1 | ⟨_, _, _, h1, h2⟩)
        · exact Or.inr h1
        · exact Or.inl ⟨h1, h2⟩
    · rename_i hc
      constructor
      · exact Or.inl
      · rintro (h1 | ⟨_, h1, h2, _⟩)
        · exact h1
        · exact absurd (by rw [h1, h2]; rfl) hc
  · rw [List.getElem?_eq_none (by omega)]
    simp only
    constructor
    · exact Or.inl
    · rintro (h1 | ⟨h2, _⟩)
      · exact h1
      · exact absurd h2 h
theorem outAt_mono (l : List I) (w : Int) {i k j : Nat} (h : i ≤ k) (hj : (outAt l w i).getD j false = true) : (outAt l w k).getD j false = true := by
  induction k with
  | zero => rw [show i = 0 by omega] at hj; exact hj
  | succ k ih =>
    rcases Nat.lt_or_ge k i with h' | h'
    · rw [show i = k + 1 by omega] at hj; exact hj
    · exact (outAt_succ l w k j).2 (Or.inl (ih h'))
/-- what is reckoned of a place when it is come to is what is reckoned of it in the end -/
theorem outAt_done (l : List I) (w : Int) {i k : Nat} (h : i ≤ k) (hj : (outAt l w k).getD i false = true) : (outAt l w i).getD i false = true := by
  induction k with
  | zero => rw [show i = 0 by omega] at hj ⊢; exact hj
  | succ k ih =>
    rcases Nat.lt_or_ge k i with h' | h'
    · rw [show i = k + 1 by omega] at hj ⊢; exact hj
    · rcases (outAt_succ l w k i).1 hj with h1 | ⟨_, _, _, h1, _⟩
      · exact ih h' h1
      · have := nxt_gt h1; omega
theorem bare_at (l : List I) (w : Int) {i : Nat} (h : i ≤ l.length) : bare l w i = (outAt l w i).getD i false := by
  rw [Bool.eq_iff_iff]
  exact ⟨fun h1 => outAt_done l w h h1, fun h1 => outAt_mono l w h h1⟩
/-- some way from the first place comes here and writes the word nowhere -/
def Bare (l : List I) (w : Int) (i : Nat) : Prop := bare l w i = true
theorem bare_iff (l : List I) (w : Int) (i : Nat) : bare l w i = true ↔ Bare l w i := Iff.rfl
theorem Bare.zero {l : List I} {w : Int} (h : 0 < l.length) : Bare l w 0 := by
  refine outAt_mono l w (Nat.zero_le _) ?_
  rw [outAt, set_getD, Bool.or_eq_true, decide_eq_true_eq]
  exact Or.inl ⟨rfl, by rw [List.length_replicate]; exact h⟩
theorem Bare.step {l : List I} {w : Int} {i j : Nat} (h : i < l.length) (hi : Bare l w i) (hw : wrW w l[i] = false) (hj : j ∈ nxt i l[i]) (hl : j < l.length) : Bare l w j := by
  refine outAt_mono l w (show i + 1 ≤ l.length by omega) ((outAt_succ l w i j).2 (Or.inr ⟨h, ?_, hw, hj, hl⟩))
  rw [← bare_at l w (by omega)]; exact hi
/-- what is so of the first place, and goes along each step that doesn't write the word, is so of each such place -/
theorem Bare.ind {l : List I} {w : Int} {P : Nat → Prop} (hz : 0 < l.length → P 0) (hs : ∀ (i j : Nat) (h : i < l.length), Bare l w i → P i → wrW w l[i] = false → j ∈ nxt i l[i] → j < l.length → P j) : ∀ {i : Nat}, Bare l w i → P i := by
  have : ∀ k j, (outAt l w k).getD j false = true → Bare l w j ∧ P j := by
    intro k
    induction k with
    | zero =>
      intro j hj
      rw [outAt, set_getD, Bool.or_eq_true, decide_eq_true_eq] at hj
      rcases hj with ⟨rfl, hl⟩ | hj
      · rw [List.length_replicate] at hl; exact ⟨Bare.zero hl, hz hl⟩
      · rw [List.getD_eq_getElem?_getD, List.getElem?_replicate] at hj
        split at hj <;> simp at hj
    | succ k ih =>
      intro j hj
      rcases (outAt_succ l w k j).1 hj with h1 | ⟨h, h1, h2, h3, h4⟩
      · exact ih j h1
      · have hk := ih k h1
        exact ⟨Bare.step h hk.1 h2 h3 h4, hs k j h hk.1 hk.2 h2 h3 h4⟩
  exact fun {i} h => (this _ i h).2
theorem Bare.lt {l : List I} {w : Int} {i : Nat} (h : Bare l w i) : i < l.length :=
  Bare.ind (P := fun i => i < l.length) (fun h => h) (fun _ _ _ _ _ _ _ h => h) h

/-- is nothing wrong with any alone, and the length as it may be? -/
def alone (l : List I) : Prop := ∀ i (h : i < l.length), loc l.length i l[i] = 0
/-- the first place that is wrong alone -/
def wrong (l : List I) (i : Nat) : Bool := match l[i]? with
  | none => false
  | some x => loc l.length i x != 0
/-- a place that reads a word that isn't written for sure -/
def raw (l : List I) (i : Nat) : Bool := match l[i]? with
  | none => false
  | some x => rdW x && bare l x.2.2.2 i
def firstOf (n : Nat) (f : Nat → Bool) : Option Nat := (List.range n).find? f
def check (l : List I) : Nat × Int :=
  if l.length = 0 then (0, 4)
  else if 4096 < l.length then (0, 5)
  else match firstOf l.length (wrong l) with
    | some i => (i, loc l.length i (l.getD i (0, 0, 0, 0)))
    | none => if rets (l.getD (l.length - 1) (0, 0, 0, 0)) = false then (l.length - 1, 12)
      else match firstOf l.length (raw l) with
        | some i => (i, 10)
        | none => (0, 0)
theorem first_none {n : Nat} {f : Nat → Bool} : firstOf n f = none ↔ ∀ i, i < n → f i = false := by
  unfold firstOf
  rw [List.find?_eq_none]
  exact ⟨fun h i hi => by simpa using h i (List.mem_range.2 hi), fun h x hx => by simpa using h x (List.mem_range.1 hx)⟩
theorem first_some {n i : Nat} {f : Nat → Bool} : firstOf n f = some i ↔ i < n ∧ f i = true ∧ ∀ j, j < i → f j = false := by
  unfold firstOf
  constructor
  · intro h
    have h1 := List.mem_range.1 (List.mem_of_find?_eq_some h)
    have h2 := List.find?_some h
    refine ⟨h1, h2, fun j hj => ?_⟩
    have h3 := List.find?_eq_some_iff_getElem.1 h
    obtain ⟨_, k, hk, e, h4⟩ := h3
    rw [List.getElem_range] at e
    subst e
    have := h4 j hj
    rw [List.getElem_range] at this
    simpa using this
  · rintro ⟨h1, h2, h3⟩
    rw [List.find?_eq_some_iff_getElem]
    refine ⟨h2, i, by simpa using h1, by simp, fun j hj => ?_⟩
    rw [List.getElem_range]
    simp [h3 j hj]
/-- a filter -/
def right (l : List I) : Prop := check l = (0, 0)
theorem right_iff (l : List I) : right l ↔ (0 < l.length ∧ l.length ≤ 4096) ∧ (∀ i, i < l.length → wrong l i = false) ∧ rets (l.getD (l.length - 1) (0, 0, 0, 0)) = true ∧ ∀ i, i < l.length → raw l i = false := by
  unfold right check
  constructor
  · intro h
    split at h
    · simp at h
    · split at h
      · simp at h
      · split at h
        · rename_i i e
          have := first_some.1 e
          simp only [Prod.mk.injEq] at h
          have hw := this.2.1
          unfold wrong at hw
          rw [List.getElem?_eq_getElem this.1] at hw
          rw [List.getD_eq_getElem?_getD, List.getElem?_eq_getElem this.1] at h
          simp at hw h
          exact absurd h.2 hw
        · rename_i e
          split at h
          · simp at h
          · split at h
            · simp at h
            · rename_i e2
              exact ⟨⟨by omega, by omega⟩, first_none.1 e, eq_true_of_ne_false (by assumption), first_none.1 e2⟩
  · rintro ⟨⟨h1, h2⟩, h3, h4, h5⟩
    rw [if_neg (by omega), if_neg (by omega), first_none.2 h3]
    simp only
    rw [if_neg (by rw [h4]; simp), first_none.2 h5]

/-- the ways of a program behind others that go on to the next place and write nothing -/
def plain (x : I) : Prop := kind x.1 = 2 ∨ kind x.1 = 3 ∨ kind x.1 = 5 ∨ kind x.1 = 7 ∨ kind x.1 = 15 ∨ kind x.1 = 16
theorem plain_nxt {x : I} (h : plain x) (i : Nat) : nxt i x = [i + 1] := by
  unfold plain at h
  unfold nxt
  rw [if_neg (by omega), if_neg (by omega), if_neg (by omega)]
theorem plain_wr {x : I} (h : plain x) (w : Int) : wrW w x = false := by
  unfold plain at h
  unfold wrW
  have h1 : (kind x.1 == 8) = false := by rw [beq_eq_false_iff_ne]; omega
  have h2 : (kind x.1 == 9) = false := by rw [beq_eq_false_iff_ne]; omega
  simp [h1, h2]
theorem plain_rd {x : I} (h : plain x) : rdW x = false := by
  unfold plain at h
  unfold rdW
  have h1 : (kind x.1 == 4) = false := by rw [beq_eq_false_iff_ne]; omega
  have h2 : (kind x.1 == 6) = false := by rw [beq_eq_false_iff_ne]; omega
  simp [h1, h2]
theorem plain_rets {x : I} (h : plain x) : rets x = false := by
  unfold plain at h
  unfold rets
  have h1 : (kind x.1 == 13) = false := by rw [beq_eq_false_iff_ne]; omega
  have h2 : (kind x.1 == 14) = false := by rw [beq_eq_false_iff_ne]; omega
  simp [h1, h2]
theorem plain_loc {x : I} (h : plain x) (n i : Nat) : loc n i x = 0 := by
  unfold plain at h
  unfold loc
  rw [if_neg (by omega), if_neg (by omega), if_neg (by omega), if_neg (by omega), if_neg (by omega), if_neg (by omega)]
theorem loc_shift (m n i : Nat) (x : I) : loc (m + n) (m + i) x = loc n i x := by
  unfold loc
  have e1 : (((m + n : Nat) : Int) ≤ ((m + i : Nat) : Int) + 1 + x.2.2.2) ↔ ((n : Int) ≤ i + 1 + x.2.2.2) := by omega
  have e2 : (((m + n : Nat) : Int) ≤ ((m + i : Nat) : Int) + 1 + x.2.1) ↔ ((n : Int) ≤ i + 1 + x.2.1) := by omega
  have e3 : (((m + n : Nat) : Int) ≤ ((m + i : Nat) : Int) + 1 + x.2.2.1) ↔ ((n : Int) ≤ i + 1 + x.2.2.1) := by omega
  simp only [e1, e2, e3]
theorem nxt_shift (m i : Nat) (x : I) : nxt (m + i) x = (nxt i x).map (m + ·) := by
  unfold nxt
  split
  · simp; omega
  · split
    · simp; omega
    · split
      · rfl
      · simp; omega
theorem get_behind (a l : List I) {i : Nat} (h : i < l.length) : (a ++ l)[a.length + i]'(by simp; omega) = l[i] := by
  rw [List.getElem_append_right (by omega)]
  simp
/-- behind plain ones a place is come to just as it was -/
theorem Bare.ahead {a l : List I} (ha : ∀ x ∈ a, plain x) {w : Int} : ∀ i, i ≤ a.length → 0 < l.length → Bare (a ++ l) w i := by
  intro i
  induction i with
  | zero => intro _ h; exact Bare.zero (by simp; omega)
  | succ i ih =>
    intro hi h
    have hl : i < (a ++ l).length := by simp; omega
    have e : (a ++ l)[i] = a[i]'(by omega) := List.getElem_append_left (by omega)
    have hp := ha _ (List.getElem_mem (show i < a.length by omega))
    refine Bare.step hl (ih (by omega) h) (by rw [e]; exact plain_wr hp w) (by rw [e, plain_nxt hp]; simp) (by simp; omega)
theorem Bare.behind {a l : List I} (ha : ∀ x ∈ a, plain x) {w : Int} {i : Nat} (h : Bare l w i) : Bare (a ++ l) w (a.length + i) := by
  refine Bare.ind (P := fun i => Bare (a ++ l) w (a.length + i)) (fun h => Bare.ahead ha a.length (Nat.le_refl _) h) (fun i j h hi ih hw hj hl => ?_) h
  have e := get_behind a l h
  exact Bare.step (i := a.length + i) (by simp; omega) ih (by rw [e]; exact hw) (by rw [e, nxt_shift]; exact List.mem_map.2 ⟨j, hj, rfl⟩) (by simp; omega)
theorem Bare.back {a l : List I} (ha : ∀ x ∈ a, plain x) {w : Int} {j : Nat} (h : Bare (a ++ l) w j) : ∀ i, j = a.length + i → Bare l w i := by
  refine Bare.ind (P := fun j => ∀ i, j = a.length + i → Bare l w i) (fun h i hi => ?_) (fun p j h hp ih hw hj hl i hi => ?_) h
  · obtain ⟨rfl, h0⟩ : i = 0 ∧ a.length = 0 := by omega
    exact Bare.zero (by simpa [h0] using h)
  · subst hi
    by_cases hpa : p < a.length
    · have e : (a ++ l)[p] = a[p]'hpa := List.getElem_append_left hpa
      rw [e, plain_nxt (ha _ (List.getElem_mem hpa))] at hj
      simp at hj
      obtain rfl : i = 0 := by omega
      exact Bare.zero (by simp at hl; omega)
    · obtain ⟨q, rfl⟩ : ∃ q, p = a.length + q := ⟨p - a.length, by omega⟩
      have hq : q < l.length := by simp at h; omega
      have e := get_behind a l hq
      rw [e] at hw hj
      rw [nxt_shift] at hj
      obtain ⟨r, hr, er⟩ := List.mem_map.1 hj
      have : r = i := by omega
      subst this
      exact Bare.step hq (ih q rfl) hw hr (by simp at hl; omega)
theorem bare_behind {a l : List I} (ha : ∀ x ∈ a, plain x) (w : Int) (i : Nat) : bare (a ++ l) w (a.length + i) = bare l w i := by
  rw [Bool.eq_iff_iff, bare_iff, bare_iff]
  exact ⟨fun h => h.back ha i rfl, fun h => h.behind ha⟩
theorem right_behind {a l : List I} (ha : ∀ x ∈ a, plain x) (hn : a.length + l.length ≤ 4096) : right (a ++ l) ↔ right l := by
  rw [right_iff, right_iff]
  have hlen : (a ++ l).length = a.length + l.length := List.length_append
  by_cases hl : l = []
  · subst hl
    simp only [List.append_nil, List.length_nil, Nat.lt_irrefl, false_and, iff_false]
    rintro ⟨⟨h1, _⟩, _, h3, _⟩
    have hlt : a.length - 1 < a.length := by omega
    rw [List.getD_eq_getElem?_getD, List.getElem?_eq_getElem hlt] at h3
    simp only [Option.getD_some] at h3
    rw [plain_rets (ha _ (List.getElem_mem hlt))] at h3
    cases h3
  · have hpos := List.length_pos_iff.2 hl
    have hlast : (a ++ l).getD ((a ++ l).length - 1) (0, 0, 0, 0) = l.getD (l.length - 1) (0, 0, 0, 0) := by
      rw [List.getD_eq_getElem?_getD, List.getD_eq_getElem?_getD, hlen, List.getElem?_append_right (by omega)]
      congr 2; omega
    have hw : ∀ i, i < l.length → wrong (a ++ l) (a.length + i) = wrong l i := by
      intro i hi
      unfold wrong
      rw [List.getElem?_append_right (by omega), show a.length + i - a.length = i by omega, List.getElem?_eq_getElem hi]
      simp only
      rw [hlen, loc_shift]
    have hr : ∀ i, i < l.length → raw (a ++ l) (a.length + i) = raw l i := by
      intro i hi
      unfold raw
      rw [List.getElem?_append_right (by omega), show a.length + i - a.length = i by omega, List.getElem?_eq_getElem hi]
      simp only
      rw [bare_behind ha]
    have hwa : ∀ i, i < a.length → wrong (a ++ l) i = false := by
      intro i hi
      unfold wrong
      rw [List.getElem?_append_left hi, List.getElem?_eq_getElem hi]
      simp only
      rw [plain_loc (ha _ (List.getElem_mem hi))]; rfl
    have hra : ∀ i, i < a.length → raw (a ++ l) i = false := by
      intro i hi
      unfold raw
      rw [List.getElem?_append_left hi, List.getElem?_eq_getElem hi]
      simp only
      rw [plain_rd (ha _ (List.getElem_mem hi))]; rfl
    rw [hlast, hlen]
    constructor
    · rintro ⟨_, h2, h3, h4⟩
      exact ⟨⟨hpos, by omega⟩, fun i hi => by rw [← hw i hi]; exact h2 _ (by omega), h3, fun i hi => by rw [← hr i hi]; exact h4 _ (by omega)⟩
    · rintro ⟨_, h2, h3, h4⟩
      refine ⟨⟨by omega, hn⟩, fun i hi => ?_, h3, fun i hi => ?_⟩
      · by_cases hia : i < a.length
        · exact hwa i hia
        · have := hw (i - a.length) (by omega)
          rw [show a.length + (i - a.length) = i by omega] at this
          rw [this]; exact h2 _ (by omega)
      · by_cases hia : i < a.length
        · exact hra i hia
        · have := hr (i - a.length) (by omega)
          rw [show a.length + (i - a.length) = i by omega] at this
          rw [this]; exact h4 _ (by omega)

/-- one more behind: what was right alone is -/
theorem loc_more {n i : Nat} {x : I} (h : loc n i x = 0) : loc (n + 1) i x = 0 := by
  unfold loc at *
  split at h
  · simp at h
  · rw [if_neg (by assumption)]
    split at h
    · rw [if_pos (by assumption)]; exact h
    · rw [if_neg (by assumption)]
      split at h
      · rw [if_pos (by assumption)]; exact h
      · rw [if_neg (by assumption)]
        split at h
        · rw [if_pos (by assumption)]; exact h
        · rw [if_neg (by assumption)]
          split at h
          · rw [if_pos (by assumption)]
            split at h
            · simp at h
            · rw [if_neg (by omega)]
          · rw [if_neg (by assumption)]
            split at h
            · rw [if_pos (by assumption)]
              split at h
              · simp at h
              · rw [if_neg (by omega)]
            · rw [if_neg (by assumption)]
theorem Bare.fewer {l : List I} {r : I} {w : Int} {i : Nat} (h : Bare (l ++ [r]) w i) : i < l.length → Bare l w i := by
  refine Bare.ind (P := fun i => i < l.length → Bare l w i) (fun _ h => Bare.zero h) (fun p j h hp ih hw hj hl hj' => ?_) h
  have hpj := nxt_gt hj
  have hpl : p < l.length := by omega
  have e : (l ++ [r])[p] = l[p] := List.getElem_append_left hpl
  rw [e] at hw hj
  exact Bare.step hpl (ih hpl) hw hj hj'
theorem right_more {l : List I} {r : I} (hr : rets r = true) (hk : kind r.1 = 13 ∨ kind r.1 = 14) (h : right l) (hn : l.length < 4096) : right (l ++ [r]) := by
  rw [right_iff] at *
  obtain ⟨⟨h1, h2⟩, h3, h4, h5⟩ := h
  have hlen : (l ++ [r]).length = l.length + 1 := by simp
  have hloc : ∀ n i, loc n i r = 0 := by
    intro n i
    unfold loc
    rw [if_neg (by omega), if_neg (by omega), if_neg (by omega), if_neg (by omega), if_neg (by omega), if_neg (by omega)]
  refine ⟨by omega, fun i hi => ?_, ?_, fun i hi => ?_⟩
  · unfold wrong
    by_cases hil : i < l.length
    · have := h3 i hil
      unfold wrong at this
      rw [List.getElem?_eq_getElem hil] at this
      rw [List.getElem?_append_left hil, List.getElem?_eq_getElem hil]
      simp only [bne_eq_false_iff_eq] at this ⊢
      rw [hlen]; exact loc_more this
    · obtain rfl : i = l.length := by omega
      rw [List.getElem?_append_right (by omega)]
      simp [hloc]
  · rw [hlen, List.getD_eq_getElem?_getD, List.getElem?_append_right (by omega)]
    simp [hr]
  · unfold raw
    by_cases hil : i < l.length
    · have := h5 i hil
      unfold raw at this
      rw [List.getElem?_eq_getElem hil] at this
      rw [List.getElem?_append_left hil, List.getElem?_eq_getElem hil]
      simp only at this ⊢
      rw [Bool.and_eq_false_iff] at this ⊢
      rcases this with this | this
      · exact Or.inl this
      · right
        rw [← Bool.not_eq_true] at this ⊢
        intro hb
        rw [bare_iff] at hb
        exact this ((bare_iff _ _ _).2 (hb.fewer hil))
    · obtain rfl : i = l.length := by omega
      rw [List.getElem?_append_right (by omega)]
      have : rdW r = false := by
        unfold rdW
        have h1 : (kind r.1 == 4) = false := by rw [beq_eq_false_iff_ne]; omega
        have h2 : (kind r.1 == 6) = false := by rw [beq_eq_false_iff_ne]; omega
        simp [h1, h2]
      simp [this]

/-- on a way through a filter: what is not written yet is bare there -/
def Way (l : List I) (p : Nat) (written : Int → Prop) : Prop := p < l.length ∧ ∀ w, ¬ written w → Bare l w p
theorem Way.start {l : List I} (h : 0 < l.length) : Way l 0 (fun _ => False) := ⟨h, fun w _ => Bare.zero h⟩
theorem Way.reads {l : List I} (hr : right l) {p : Nat} {written : Int → Prop} (h : Way l p written) (hd : rdW (l[p]'h.1) = true) : written (l[p]'h.1).2.2.2 := by
  have h5 := ((right_iff l).1 hr).2.2.2 p h.1
  unfold raw at h5
  rw [List.getElem?_eq_getElem h.1] at h5
  simp only at h5
  rw [hd, Bool.true_and, ← Bool.not_eq_true, bare_iff] at h5
  exact Classical.byContradiction fun hw => h5 (h.2 _ hw)
theorem Way.on {l : List I} (hr : right l) {p q : Nat} {written written' : Int → Prop} (h : Way l p written) (hq : q ∈ nxt p (l[p]'h.1)) (hw : ∀ w, ¬ written' w → ¬ written w ∧ wrW w (l[p]'h.1) = false) (ok : ∀ x ∈ l, okI x) : p < q ∧ Way l q written' := by
  have hgt := nxt_gt hq
  obtain ⟨⟨h1, h2⟩, h3, h4, h5⟩ := (right_iff l).1 hr
  have hloc := h3 p h.1
  unfold wrong at hloc
  rw [List.getElem?_eq_getElem h.1] at hloc
  simp only [bne_eq_false_iff_eq] at hloc
  have hok := ok _ (List.getElem_mem h.1)
  obtain ⟨_, ⟨t0, _⟩, ⟨f0, _⟩, ⟨k0, _⟩⟩ := hok
  have hql : q < l.length := by
    unfold nxt at hq
    split at hq
    · rename_i hk
      simp only [List.mem_singleton] at hq
      unfold loc at hloc
      rw [if_neg (by omega), if_neg (by omega), if_neg (by omega), if_neg (by omega), if_pos hk] at hloc
      split at hloc
      · simp at hloc
      · omega
    · split at hq
      · rename_i hk
        simp only [List.mem_cons, List.not_mem_nil, or_false] at hq
        unfold loc at hloc
        rw [if_neg (by omega), if_neg (by omega), if_neg (by omega), if_neg (by omega), if_neg (by omega), if_pos hk] at hloc
        split at hloc
        · simp at hloc
        · omega
      · split at hq
        · simp at hq
        · rename_i hk
          simp only [List.mem_singleton] at hq
          subst hq
          rcases Nat.lt_or_ge (p + 1) l.length with hlt | hge
          · exact hlt
          · exfalso
            have hp1 : p = l.length - 1 := by have := h.1; omega
            rw [List.getD_eq_getElem?_getD, ← hp1, List.getElem?_eq_getElem h.1] at h4
            simp only [Option.getD_some, rets, Bool.or_eq_true, beq_iff_eq] at h4
            omega
  exact ⟨hgt, hql, fun w hw' => Bare.step h.1 (h.2 w (hw w hw').1) (hw w hw').2 hq hql⟩
end Go.Proofs.Ytcojhfppipdfoaa.M
