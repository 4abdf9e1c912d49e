/-
  What is needed, and what a round leaves, as plain functions; a round of a filter is a filter.
-/
import Derived.Test.YtahaooghebmhnaaPruMath
namespace Go.Proofs.Ytahaooghebmhnaa.M
set_option linter.unusedVariables false
set_option linter.unusedSectionVars false

/-- how many of the first places are so -/
def cnP (P : Nat → Bool) (j : Nat) : Nat := ((List.range j).filter P).length
def lsP (P : Nat → Bool) (n : Nat) : List Nat := (List.range n).filter P
theorem cnP_succ (P : Nat → Bool) (j : Nat) : cnP P (j + 1) = cnP P j + (if P j = true then 1 else 0) := by
  unfold cnP
  rw [List.range_succ, List.filter_append, List.length_append]
  congr 1
  simp only [List.filter_cons, List.filter_nil]
  split <;> simp
theorem cnP_mono (P : Nat → Bool) {j k : Nat} (h : j ≤ k) : cnP P j ≤ cnP P k := by
  induction k with
  | zero => have : j = 0 := by omega
            subst this; exact Nat.le_refl _
  | succ k ih =>
    by_cases e : j = k + 1
    · subst e; exact Nat.le_refl _
    · have := ih (by omega)
      rw [cnP_succ]; omega
theorem cnP_lt (P : Nat → Bool) {j k : Nat} (h : j < k) (hl : P j = true) : cnP P j < cnP P k := by
  have := cnP_mono P (show j + 1 ≤ k by omega)
  rw [cnP_succ, if_pos hl] at this
  omega
theorem cnP_flat (P : Nat → Bool) {a b : Nat} (hab : a ≤ b) (h : ∀ k, a ≤ k → k < b → P k = false) : cnP P b = cnP P a := by
  induction b with
  | zero => have : a = 0 := by omega
            subst this; rfl
  | succ b ih =>
    by_cases e : a = b + 1
    · subst e; rfl
    · rw [cnP_succ, h b (by omega) (by omega), ih (by omega) (fun k h1 h2 => h k h1 (by omega))]
      simp
theorem cnP_near (P : Nat → Bool) {a b : Nat} (hab : a ≤ b) : cnP P b ≤ cnP P a + (b - a) := by
  induction b with
  | zero => have : a = 0 := by omega
            subst this; omega
  | succ b ih =>
    by_cases e : a = b + 1
    · subst e; omega
    · have := ih (by omega)
      rw [cnP_succ]
      split <;> omega
theorem lsP_succ (P : Nat → Bool) (n : Nat) : lsP P (n + 1) = lsP P n ++ (if P n = true then [n] else []) := by
  unfold lsP
  rw [List.range_succ, List.filter_append]
  congr 1
  simp only [List.filter_cons, List.filter_nil]
theorem lsP_len (P : Nat → Bool) (n : Nat) : (lsP P n).length = cnP P n := rfl
theorem lsP_get (P : Nat → Bool) : ∀ (n j : Nat), j < n → P j = true → (lsP P n)[cnP P j]? = some j := by
  intro n
  induction n with
  | zero => intro j h; omega
  | succ n ih =>
    intro j h hl
    rw [lsP_succ]
    by_cases e : j = n
    · subst e
      rw [if_pos hl, List.getElem?_append_right (by rw [lsP_len]; exact Nat.le_refl _), lsP_len]
      simp
    · have h1 := cnP_lt P (show j < n by omega) hl
      rw [List.getElem?_append_left (by rw [lsP_len]; exact h1)]
      exact ih j (by omega) hl
theorem lsP_mem {P : Nat → Bool} {n j : Nat} : j ∈ lsP P n ↔ j < n ∧ P j = true := by
  unfold lsP
  rw [List.mem_filter, List.mem_range]
theorem cnP_inj (P : Nat → Bool) {j k : Nat} (hj : P j = true) (hk : P k = true) (h : cnP P j = cnP P k) : j = k := by
  rcases Nat.lt_trichotomy j k with e | e | e
  · have := cnP_lt P e hj; omega
  · exact e
  · have := cnP_lt P e hk; omega
theorem lsP_cnP {P : Nat → Bool} {n i : Nat} (hi : i < (lsP P n).length) : cnP P (lsP P n)[i] = i := by
  have hs : (lsP P n).Pairwise (· < ·) := List.Pairwise.filter _ List.pairwise_lt_range
  have hm := lsP_mem.1 (List.getElem_mem hi)
  have hg := lsP_get P n _ hm.1 hm.2
  obtain ⟨h1, h2⟩ := List.getElem?_eq_some_iff.1 hg
  rcases Nat.lt_trichotomy (cnP P (lsP P n)[i]) i with h | h | h
  · have := List.pairwise_iff_getElem.1 hs _ _ h1 hi h
    omega
  · exact h
  · have := List.pairwise_iff_getElem.1 hs _ _ hi h1 h
    omega
theorem lsP_all {P : Nat → Bool} : ∀ {n : Nat}, (lsP P n).length = n → ∀ i, i < n → P i = true := by
  intro n
  induction n with
  | zero => intro _ i h; omega
  | succ n ih =>
    intro h i hi
    have hle : ∀ m, cnP P m ≤ m := fun m => by have := cnP_near P (Nat.zero_le m); have e : cnP P 0 = 0 := rfl; omega
    rw [lsP_len, cnP_succ] at h
    have h1 := hle n
    have hp : P n = true := by
      by_cases e : P n = true
      · exact e
      · rw [if_neg e] at h; omega
    rw [if_pos hp] at h
    by_cases e : i = n
    · subst e; exact hp
    · exact ih (by rw [lsP_len]; omega) i (by omega)
theorem cnP_all {P : Nat → Bool} : ∀ {n : Nat}, (∀ i, i < n → P i = true) → cnP P n = n := by
  intro n
  induction n with
  | zero => intro _; rfl
  | succ n ih => intro h; rw [cnP_succ, if_pos (h n (by omega)), ih (fun i hi => h i (by omega))]

/-- is it needed, of a list whose jumps go straight? for so many places -/
def ndF (s : List I) : Nat → Nat → Bool
  | 0, _ => false
  | n + 1, i => rch s i && (!isJa (at0 s i) || (List.range (tgt s i)).any fun k => decide (i < k) && ndF s n k)
theorem ndF_out {s : List I} {i : Nat} (h : s.length ≤ i) (n : Nat) : ndF s n i = false := by
  cases n with
  | zero => rfl
  | succ n =>
    rw [ndF]
    cases e : rch s i with
    | false => rfl
    | true => have := rch_lt e; omega
theorem any_ext {α : Type} {f g : α → Bool} : ∀ {l : List α}, (∀ x ∈ l, f x = g x) → l.any f = l.any g := by
  intro l
  induction l with
  | nil => intro _; rfl
  | cons a l ih => intro h; rw [List.any_cons, List.any_cons, h a (by simp), ih (fun x hx => h x (by simp [hx]))]
theorem ndF_same (s : List I) : ∀ (d i n m : Nat), s.length ≤ i + d → d ≤ n → d ≤ m → ndF s n i = ndF s m i := by
  intro d
  induction d with
  | zero => intro i n m h _ _; rw [ndF_out (by omega), ndF_out (by omega)]
  | succ d ih =>
    intro i n m h hn hm
    obtain ⟨n, rfl⟩ : ∃ a, n = a + 1 := ⟨n - 1, by omega⟩
    obtain ⟨m, rfl⟩ : ∃ a, m = a + 1 := ⟨m - 1, by omega⟩
    rw [ndF, ndF]
    congr 2
    refine any_ext fun k _ => ?_
    by_cases e : i < k
    · rw [ih k n m (by omega) (by omega) (by omega)]
    · rw [decide_eq_false e]; rfl
def nd (s : List I) (i : Nat) : Bool := ndF s (s.length - i) i
theorem nd_eq (s : List I) (i : Nat) : nd s i = (rch s i && (!isJa (at0 s i) || (List.range (tgt s i)).any fun k => decide (i < k) && nd s k)) := by
  by_cases h : i < s.length
  · unfold nd
    rw [show s.length - i = (s.length - i - 1) + 1 by omega, ndF]
    congr 2
    refine any_ext fun k _ => ?_
    by_cases e : i < k
    · rw [ndF_same s (s.length - k) k (s.length - i - 1) (s.length - k) (by omega) (by omega) (Nat.le_refl _)]
    · rw [decide_eq_false e]; rfl
  · unfold nd
    rw [ndF_out (by omega)]
    cases e : rch s i with
    | false => rfl
    | true => have := rch_lt e; omega
theorem nd_iff {s : List I} {i : Nat} : nd s i = true ↔ rch s i = true ∧ (isJa (at0 s i) = false ∨ ∃ k, i < k ∧ k < tgt s i ∧ nd s k = true) := by
  rw [nd_eq, Bool.and_eq_true, Bool.or_eq_true, Bool.not_eq_true', List.any_eq_true]
  refine and_congr_right fun _ => or_congr_right ?_
  constructor
  · rintro ⟨k, h1, h2⟩
    rw [Bool.and_eq_true, decide_eq_true_eq] at h2
    exact ⟨k, h2.1, List.mem_range.1 h1, h2.2⟩
  · rintro ⟨k, h1, h2, h3⟩
    exact ⟨k, List.mem_range.2 h2, by rw [Bool.and_eq_true, decide_eq_true_eq]; exact ⟨h1, h3⟩⟩
theorem nd_lt {s : List I} {i : Nat} (h : nd s i = true) : i < s.length := rch_lt (nd_iff.1 h).1
def cnt (s : List I) (i : Nat) : Nat := cnP (nd s) i
/-- an instruction as a round leaves it -/
def rndI (s : List I) (i : Nat) : I :=
  if kind (at0 s i).1 = 11 then ((at0 s i).1, (at0 s i).2.1, (at0 s i).2.2.1, ((cnt s (tgt s i) - cnt s i - 1 : Nat) : Int))
  else if kind (at0 s i).1 = 12 then ((at0 s i).1, ((cnt s (i + 1 + (at0 s i).2.1.toNat) - cnt s i - 1 : Nat) : Int), ((cnt s (i + 1 + (at0 s i).2.2.1.toNat) - cnt s i - 1 : Nat) : Int), (at0 s i).2.2.2)
  else at0 s i
def rndL (s : List I) : List I := (lsP (nd s) s.length).map (rndI s)
def roundL (l : List I) : List I := rndL (strL l)
theorem rndI_code (s : List I) (i : Nat) : (rndI s i).1 = (at0 s i).1 := by
  unfold rndI
  split
  · rfl
  · split <;> rfl
theorem rndI_k {s : List I} {i : Nat} (h : kind (at0 s i).1 ≠ 11) : (rndI s i).2.2.2 = (at0 s i).2.2.2 := by
  unfold rndI
  rw [if_neg h]
  split <;> rfl
theorem rndL_len (s : List I) : (rndL s).length = cnt s s.length := by unfold rndL; rw [List.length_map]; rfl
theorem cnt_lt {s : List I} {i : Nat} (h : nd s i = true) : cnt s i < (rndL s).length := by
  rw [rndL_len]; exact cnP_lt _ (nd_lt h) h
theorem rndL_at {s : List I} {i : Nat} (h : nd s i = true) : at0 (rndL s) (cnt s i) = rndI s i := by
  have := lsP_get (nd s) s.length i (nd_lt h) h
  unfold at0 rndL cnt
  rw [List.getD_eq_getElem?_getD, List.getElem?_map, this]
  rfl
/-- each place of a round comes of one that is needed -/
theorem rnd_of {s : List I} {j : Nat} (h : j < (rndL s).length) : ∃ i, nd s i = true ∧ cnt s i = j := by
  have h' : j < (lsP (nd s) s.length).length := by rw [lsP_len]; rw [rndL_len] at h; exact h
  exact ⟨_, (lsP_mem.1 (List.getElem_mem h')).2, lsP_cnP h'⟩
theorem rnd_sel {s : List I} {i : Nat} (h : nd s i = true) (b : Bool) : sel b (cnt s i) (rndI s i) = cnt s (sel b i (at0 s i)) := by
  unfold sel
  rw [rndI_code]
  by_cases h1 : kind (at0 s i).1 = 11
  · rw [if_pos h1, if_pos h1]
    unfold rndI
    rw [if_pos h1]
    simp only [Int.toNat_natCast]
    have := cnP_lt (nd s) (tgt_gt s i) h
    unfold cnt
    show _ = cnP (nd s) (tgt s i)
    omega
  · rw [if_neg h1, if_neg h1]
    by_cases h2 : kind (at0 s i).1 = 12
    · rw [if_pos h2, if_pos h2]
      unfold rndI
      rw [if_neg h1, if_pos h2]
      simp only [Int.toNat_natCast]
      have g1 := cnP_lt (nd s) (show i < i + 1 + (at0 s i).2.1.toNat by omega) h
      have g2 := cnP_lt (nd s) (show i < i + 1 + (at0 s i).2.2.1.toNat by omega) h
      unfold cnt
      cases b with
      | true => rw [if_pos rfl, if_pos rfl]; omega
      | false => rw [if_neg (by simp), if_neg (by simp)]; omega
    · rw [if_neg h2, if_neg h2]
      unfold cnt
      rw [cnP_succ, if_pos h]

/-- the needed place that a reached one leads to -/
def nn (s : List I) (t : Nat) : Nat := if nd s t = true then t else tgt s t
theorem nn_yes {s : List I} {t : Nat} (h : nd s t = true) : nn s t = t := if_pos h
theorem nn_no {s : List I} {t : Nat} (h : nd s t = false) : nn s t = tgt s t := if_neg (by rw [h]; simp)
theorem nd_no {s : List I} {t : Nat} (hc : rch s t = true) (h : nd s t = false) : isJa (at0 s t) = true ∧ ∀ k, t ≤ k → k < tgt s t → nd s k = false := by
  have hj : isJa (at0 s t) = true := by
    cases e : isJa (at0 s t) with
    | true => rfl
    | false => rw [nd_iff.2 ⟨hc, .inl e⟩] at h; cases h
  refine ⟨hj, fun k h1 h2 => ?_⟩
  by_cases e : k = t
  · subst e; exact h
  · cases e2 : nd s k with
    | false => rfl
    | true => rw [nd_iff.2 ⟨hc, .inr ⟨k, by omega, h2, e2⟩⟩] at h; cases h
theorem rets_code {x y : I} (h : y.1 = x.1) : rets y = rets x := by unfold rets; rw [h]
theorem wr_code {x y : I} (h : y.1 = x.1) (hk : kind x.1 ≠ 11 → y.2.2.2 = x.2.2.2) (w : Int) : wrW w y = wrW w x := by
  unfold wrW
  rw [h]
  by_cases e : kind x.1 = 11
  · rw [e]; rfl
  · rw [hk e]

theorem str_sel {l : List I} (hr : right l) (ok : ∀ x ∈ l, okI x) {i : Nat} (hi : i < l.length) (hn : rets (at0 l i) = false) (b : Bool) : sel b i (at0 (strL l) i) < l.length := by
  rw [strL_at hi]
  obtain ⟨k, e⟩ := sel_str (l := l) b i
  rw [e]
  exact jaN_lt hr ok k _ (beh_lt hr ok hi (mem_beh.2 (mem_sel.2 ⟨hn, b, rfl⟩)))
theorem str_rch {l : List I} (hr : right l) (ok : ∀ x ∈ l, okI x) {i : Nat} (hi : rch (strL l) i = true) (hn : rets (at0 l i) = false) (b : Bool) : rch (strL l) (sel b i (at0 (strL l) i)) = true := by
  have hil := rch_lt hi
  have hil' : i < l.length := by rw [strL_len] at hil; exact hil
  refine rch_step (strL_ok hr ok) hil hi (mem_beh.2 (mem_sel.2 ⟨by rw [rets_code (strL_code l i)]; exact hn, b, rfl⟩)) ?_
  rw [strL_len]
  exact str_sel hr ok hil' hn b
theorem ja_rets {l : List I} (hr : right l) (ok : ∀ x ∈ l, okI x) {x : I} (h : isJa x = true) : rets x = false := by
  unfold rets
  rw [isJa_iff.1 h]; rfl
theorem nn_nd {l : List I} (hr : right l) (ok : ∀ x ∈ l, okI x) {t : Nat} (hc : rch (strL l) t = true) : nd (strL l) (nn (strL l) t) = true := by
  cases h : nd (strL l) t with
  | true => rw [nn_yes h]; exact h
  | false =>
    obtain ⟨hj, _⟩ := nd_no hc h
    rw [nn_no h]
    have hjl : isJa (at0 l t) = true := by rw [← strL_ja]; exact hj
    have e : tgt (strL l) t = sel true t (at0 (strL l) t) := by unfold sel; rw [if_pos (isJa_iff.1 hj)]; rfl
    refine nd_iff.2 ⟨by rw [e]; exact str_rch hr ok hc (ja_rets hr ok hjl) true, .inl ?_⟩
    rw [strL_ja, strL_tgt hjl]
    exact endOf_stop l t
theorem nn_cnt {l : List I} (hr : right l) (ok : ∀ x ∈ l, okI x) {t : Nat} (hc : rch (strL l) t = true) : cnt (strL l) (nn (strL l) t) = cnt (strL l) t := by
  cases h : nd (strL l) t with
  | true => rw [nn_yes h]
  | false =>
    obtain ⟨_, hk⟩ := nd_no hc h
    rw [nn_no h]
    exact cnP_flat _ (Nat.le_of_lt (tgt_gt _ t)) hk
theorem nn_ja {l : List I} (hr : right l) (ok : ∀ x ∈ l, okI x) {t : Nat} (hc : rch (strL l) t = true) : ∃ k, nn (strL l) t = jaN l k t := by
  cases h : nd (strL l) t with
  | true => exact ⟨0, by rw [nn_yes h]; rfl⟩
  | false =>
    obtain ⟨hj, _⟩ := nd_no hc h
    have hjl : isJa (at0 l t) = true := by rw [← strL_ja]; exact hj
    exact ⟨l.length, by rw [nn_no h, strL_tgt hjl]; rfl⟩
theorem len0 {l : List I} (hr : right l) (ok : ∀ x ∈ l, okI x) : 0 < l.length := ((right_iff l).1 hr).1.1
theorem str0 {l : List I} (hr : right l) (ok : ∀ x ∈ l, okI x) : rch (strL l) 0 = true := rch_zero (by rw [strL_len]; exact len0 hr ok)
/-- without a word written, from Ja to Ja -/
theorem bare_ja {l : List I} (hr : right l) (ok : ∀ x ∈ l, okI x) {w : Int} : ∀ (k t : Nat), Bare l w t → Bare l w (jaN l k t) := by
  intro k
  induction k with
  | zero => intro t h; exact h
  | succ k ih =>
    intro t h
    cases e : isJa (at0 l t) with
    | false => rw [jaN_not e]; exact h
    | true =>
      rw [jaN_ja e]
      have ht := ja_lt e
      have hw : wrW w (at0 l t) = false := by unfold wrW; rw [isJa_iff.1 e]; rfl
      refine ih _ (Bare.step ht h (by rw [← at0_eq ht]; exact hw) (by rw [← at0_eq ht, tgt_nxt e]; simp) (tgt_lt hr ok e))
theorem round_bare {l : List I} (hr : right l) (ok : ∀ x ∈ l, okI x) {w : Int} {j : Nat} (h : Bare (roundL l) w j) : ∀ i, nd (strL l) i = true → cnt (strL l) i = j → Bare l w i := by
  refine Bare.ind (P := fun j => ∀ i, nd (strL l) i = true → cnt (strL l) i = j → Bare l w i) (fun h i hi hc => ?_) (fun j j' hj hb ih hw hn hl i hi hc => ?_) h
  · have h0 := str0 hr ok
    have e : nn (strL l) 0 = i := cnP_inj _ (nn_nd hr ok h0) hi (by
      have := nn_cnt hr ok h0
      unfold cnt at this hc
      rw [this, hc]; rfl)
    obtain ⟨k, e2⟩ := nn_ja hr ok h0
    rw [← e, e2]
    exact bare_ja hr ok k 0 (Bare.zero (len0 hr ok))
  · obtain ⟨p, hp, hpc⟩ := rnd_of hj
    have hpl := nd_lt hp
    rw [strL_len] at hpl
    have ex : (roundL l)[j] = rndI (strL l) p := by
      rw [← at0_eq hj, ← hpc]; exact rndL_at hp
    rw [ex] at hw hn
    have hcode : (rndI (strL l) p).1 = (at0 l p).1 := by rw [rndI_code, strL_code]
    have hk : kind (at0 l p).1 ≠ 11 → (rndI (strL l) p).2.2.2 = (at0 l p).2.2.2 := fun h1 => by
      rw [rndI_k (by rw [strL_code]; exact h1), strL_at hpl, strI_k h1]
    rw [wr_code hcode hk] at hw
    obtain ⟨hrt, b, hj'⟩ := mem_sel.1 hn
    rw [rets_code hcode] at hrt
    rw [← hpc, rnd_sel hp] at hj'
    have hB := ih p hp hpc
    have hnx : sel b p (at0 l p) ∈ nxt p (at0 l p) := mem_sel.2 ⟨hrt, b, rfl⟩
    have hB2 : Bare l w (sel b p (at0 l p)) := Bare.step hpl hB (by rw [← at0_eq hpl]; exact hw) (by rw [← at0_eq hpl]; exact hnx) (beh_lt hr ok hpl (mem_beh.2 hnx))
    have hrc := str_rch hr ok (nd_iff.1 hp).1 hrt b
    obtain ⟨k1, e1⟩ := sel_str (l := l) b p
    have hB3 : Bare l w (sel b p (at0 (strL l) p)) := by rw [strL_at hpl, e1]; exact bare_ja hr ok k1 _ hB2
    obtain ⟨k2, e2⟩ := nn_ja hr ok hrc
    have e : nn (strL l) (sel b p (at0 (strL l) p)) = i := cnP_inj _ (nn_nd hr ok hrc) hi (by
      have := nn_cnt hr ok hrc
      unfold cnt at this hc hj'
      rw [this, hc, hj'])
    rw [← e, e2]
    exact bare_ja hr ok k2 _ hB3
theorem rnd_ok {l : List I} (hr : right l) (ok : ∀ x ∈ l, okI x) : ∀ x ∈ roundL l, okI x := by
  intro x hx
  obtain ⟨i, hi, rfl⟩ := List.mem_map.1 hx
  obtain ⟨hil, hn⟩ := lsP_mem.1 hi
  obtain ⟨a0, a1, a2, a3⟩ := at0_ok (strL_ok hr ok) i
  have hlen := ((right_iff l).1 hr).1.2
  have hc : ∀ t, i < t → cnt (strL l) t - cnt (strL l) i - 1 ≤ t - i - 1 := fun t ht => by
    have := cnP_near (nd (strL l)) (show i ≤ t by omega)
    unfold cnt
    omega
  unfold rndI
  split
  · rename_i h1
    have hj := isJa_iff.2 h1
    have hjl : isJa (at0 l i) = true := by rw [← strL_ja]; exact hj
    have h2 := hc _ (tgt_gt (strL l) i)
    rw [strL_len] at hil
    have h3 := endOf_lt hr ok hil
    rw [← strL_tgt hjl] at h3
    exact ⟨a0, a1, a2, by simp only; omega⟩
  · split
    · have h2 := hc (i + 1 + (at0 (strL l) i).2.1.toNat) (by omega)
      have h3 := hc (i + 1 + (at0 (strL l) i).2.2.1.toNat) (by omega)
      exact ⟨a0, by simp only; omega, by simp only; omega, a3⟩
    · exact ⟨a0, a1, a2, a3⟩
theorem round_len {l : List I} (hr : right l) (ok : ∀ x ∈ l, okI x) : 0 < (roundL l).length ∧ (roundL l).length ≤ l.length := by
  constructor
  · have := cnt_lt (nn_nd hr ok (str0 hr ok))
    unfold roundL; omega
  · unfold roundL
    rw [rndL_len, strL_len]
    have := cnP_near (nd (strL l)) (Nat.zero_le l.length)
    have e : cnP (nd (strL l)) 0 = 0 := rfl
    unfold cnt
    omega
theorem round_right {l : List I} (hr : right l) (ok : ∀ x ∈ l, okI x) : right (roundL l) := by
  obtain ⟨⟨h1, h2⟩, h3, h4, h5⟩ := (right_iff l).1 hr
  obtain ⟨g1, g2⟩ := round_len hr ok
  refine (right_iff _).2 ⟨⟨g1, by omega⟩, fun j hj => ?_, ?_, fun j hj => ?_⟩
  · obtain ⟨i, hi, hc⟩ := rnd_of hj
    have hil := nd_lt hi
    rw [strL_len] at hil
    have ex : (roundL l)[j] = rndI (strL l) i := by rw [← at0_eq hj, ← hc]; exact rndL_at hi
    have hw := h3 i hil
    unfold wrong at hw ⊢
    rw [List.getElem?_eq_getElem hil] at hw
    rw [List.getElem?_eq_getElem hj, ex]
    simp only [bne_eq_false_iff_eq] at hw ⊢
    rw [← at0_eq hil] at hw
    have hcode : (rndI (strL l) i).1 = (at0 l i).1 := by rw [rndI_code, strL_code]
    have hk : kind (at0 l i).1 ≠ 11 → (rndI (strL l) i).2.2.2 = (at0 l i).2.2.2 := fun h1 => by
      rw [rndI_k (by rw [strL_code]; exact h1), strL_at hil, strI_k h1]
    have hsel : rets (at0 l i) = false → ∀ b, sel b j (rndI (strL l) i) < (roundL l).length := fun hrt b => by
      have hrc := str_rch hr ok (nd_iff.1 hi).1 hrt b
      rw [← hc, rnd_sel hi, ← nn_cnt hr ok hrc]
      exact cnt_lt (nn_nd hr ok hrc)
    have hb := rnd_ok hr ok _ (List.mem_map.2 ⟨i, lsP_mem.2 ⟨nd_lt hi, hi⟩, rfl⟩)
    obtain ⟨b0, b1, b2, b3⟩ := hb
    unfold loc at hw ⊢
    rw [hcode]
    by_cases k11 : kind (at0 l i).1 = 11
    · have hs := hsel (ja_rets hr ok (isJa_iff.2 k11)) true
      unfold sel at hs
      rw [hcode, if_pos k11] at hs
      rw [if_neg (by omega), if_neg (by omega), if_neg (by omega), if_neg (by omega), if_pos k11, if_neg (by omega)]
    · by_cases k12 : kind (at0 l i).1 = 12
      · have hrt : rets (at0 l i) = false := by unfold rets; rw [k12]; rfl
        have hs1 := hsel hrt true
        have hs2 := hsel hrt false
        unfold sel at hs1 hs2
        rw [hcode, if_neg k11, if_pos k12, if_pos rfl] at hs1
        rw [hcode, if_neg k11, if_pos k12, if_neg (by simp)] at hs2
        rw [if_neg (by omega), if_neg (by omega), if_neg (by omega), if_neg (by omega), if_neg (by omega), if_pos k12, if_neg (by omega)]
      · rw [hk k11]
        rw [if_neg k11, if_neg k12] at hw ⊢
        exact hw
  · have hj : (roundL l).length - 1 < (roundL l).length := by omega
    obtain ⟨i, hi, hc⟩ := rnd_of hj
    show rets (at0 (roundL l) ((roundL l).length - 1)) = true
    have ex : at0 (roundL l) ((roundL l).length - 1) = rndI (strL l) i := by rw [← hc]; exact rndL_at hi
    rw [ex, rets_code (rndI_code _ _), rets_code (strL_code l i)]
    cases hrt : rets (at0 l i) with
    | true => rfl
    | false =>
      exfalso
      have hrc := str_rch hr ok (nd_iff.1 hi).1 hrt true
      have h1 := cnt_lt (nn_nd hr ok hrc)
      rw [nn_cnt hr ok hrc] at h1
      have h2 := cnP_lt (nd (strL l)) (sel_gt true i (at0 (strL l) i)) hi
      have e : (rndL (strL l)).length = (roundL l).length := rfl
      unfold cnt at h1 hc
      omega
  · obtain ⟨i, hi, hc⟩ := rnd_of hj
    have hil := nd_lt hi
    rw [strL_len] at hil
    have ex : (roundL l)[j] = rndI (strL l) i := by rw [← at0_eq hj, ← hc]; exact rndL_at hi
    have hw := h5 i hil
    unfold raw at hw ⊢
    rw [List.getElem?_eq_getElem hil] at hw
    rw [List.getElem?_eq_getElem hj, ex]
    simp only at hw ⊢
    rw [← at0_eq hil] at hw
    have hcode : (rndI (strL l) i).1 = (at0 l i).1 := by rw [rndI_code, strL_code]
    have hrd : rdW (rndI (strL l) i) = rdW (at0 l i) := by unfold rdW; rw [hcode]
    rw [hrd]
    cases hd : rdW (at0 l i) with
    | false => rfl
    | true =>
      rw [hd, Bool.true_and] at hw
      rw [Bool.true_and]
      have k11 : kind (at0 l i).1 ≠ 11 := by
        intro e
        unfold rdW at hd
        rw [e] at hd
        cases hd
      have hk : (rndI (strL l) i).2.2.2 = (at0 l i).2.2.2 := by
        rw [rndI_k (by rw [strL_code]; exact k11), strL_at hil, strI_k k11]
      rw [hk]
      cases hb : bare (roundL l) (at0 l i).2.2.2 j with
      | false => rfl
      | true =>
        have : Bare l (at0 l i).2.2.2 i := round_bare hr ok hb i hi hc
        unfold Bare at this
        rw [hw] at this
        cases this
end Go.Proofs.Ytahaooghebmhnaa.M
