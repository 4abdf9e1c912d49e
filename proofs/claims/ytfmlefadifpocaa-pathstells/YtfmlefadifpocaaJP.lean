/-
  How many ways a filter has, and how many instructions they have, as plain functions; a round makes neither more.
-/
import Derived.Test.YtfmlefadifpocaaJN
namespace Go.Proofs.Ytfmlefadifpocaa.M
set_option linter.unusedVariables false
set_option linter.unusedSectionVars false

/-- a number, not above 2^50 -/
def held (n : Nat) : Nat := min n 1125899906842624
theorem held_le (n : Nat) : held n ≤ 1125899906842624 := by unfold held; omega
theorem held_add (a b : Nat) : held (held a + held b) = held (a + b) := by unfold held; omega
theorem held_add' (a b : Nat) : held (held a + b) = held (a + b) := by unfold held; omega
theorem held_mono {a b : Nat} (h : a ≤ b) : held a ≤ held b := by unfold held; omega
theorem held_mul (a n : Nat) (h : 0 < n) : held (held a * n) = held (a * n) := by
  by_cases ha : a ≤ 1125899906842624
  · have : held a = a := by unfold held; omega
    rw [this]
  · have e : held a = 1125899906842624 := by unfold held; omega
    have h1 : 1125899906842624 * 1 ≤ 1125899906842624 * n := Nat.mul_le_mul_left _ h
    have h2 : 1125899906842624 * n ≤ a * n := Nat.mul_le_mul_right _ (by omega)
    rw [e]
    unfold held
    omega
/-- added up over the places behind -/
def bsum (f : Nat → Nat) (i : Nat) (x : I) : Nat := ((beh i x).map f).sum
theorem bsum_ret {f : Nat → Nat} {i : Nat} {x : I} (h : rets x = true) : bsum f i x = 0 := by
  unfold bsum
  have : beh i x = [] := beh_nil.2 (by
    unfold rets at h
    rw [Bool.or_eq_true, beq_iff_eq, beq_iff_eq] at h
    exact h)
  rw [this]; rfl
theorem bsum_one {f : Nat → Nat} {i : Nat} {x : I} (ok : okI x) (h : rets x = false) (e : sel true i x = sel false i x) : bsum f i x = f (sel true i x) := by
  obtain ⟨_, b1, b2, b3⟩ := ok
  unfold bsum
  have hR : ¬ (kind x.1 = 13 ∨ kind x.1 = 14) := by
    unfold rets at h
    rw [Bool.or_eq_false_iff, beq_eq_false_iff_ne, beq_eq_false_iff_ne] at h
    omega
  by_cases h1 : kind x.1 = 11
  · rw [beh_not (by omega), nxt_ja h1]
    have e1 : sel true i x = i + 1 + x.2.2.2.toNat := by unfold sel; rw [if_pos h1]
    rw [e1]; simp
  · by_cases h2 : kind x.1 = 12
    · have e1 : sel true i x = i + 1 + x.2.1.toNat := by unfold sel; rw [if_neg h1, if_pos h2, if_pos rfl]
      have e2 : sel false i x = i + 1 + x.2.2.1.toNat := by unfold sel; rw [if_neg h1, if_pos h2, if_neg (by simp)]
      rw [e1, e2] at e
      rw [beh_jif h2, if_pos (by omega), e1]; simp
    · have e1 : sel true i x = i + 1 := by unfold sel; rw [if_neg h1, if_neg h2]
      rw [beh_not h2, nxt_on (by omega), e1]; simp
theorem bsum_two {f : Nat → Nat} {i : Nat} {x : I} (ok : okI x) (h : rets x = false) (e : sel true i x ≠ sel false i x) : bsum f i x = f (sel true i x) + f (sel false i x) := by
  obtain ⟨_, b1, b2, b3⟩ := ok
  by_cases h1 : kind x.1 = 11
  · exact absurd (by unfold sel; rw [if_pos h1, if_pos h1]) e
  · by_cases h2 : kind x.1 = 12
    · have e1 : sel true i x = i + 1 + x.2.1.toNat := by unfold sel; rw [if_neg h1, if_pos h2, if_pos rfl]
      have e2 : sel false i x = i + 1 + x.2.2.1.toNat := by unfold sel; rw [if_neg h1, if_pos h2, if_neg (by simp)]
      rw [e1, e2] at e ⊢
      unfold bsum
      rw [beh_jif h2, if_neg (by omega)]
      split
      · simp; omega
      · simp
    · exact absurd (by unfold sel; rw [if_neg h1, if_neg h2, if_neg h1, if_neg h2]) e
theorem bsum_ext {f g : Nat → Nat} {i : Nat} {x : I} (h : ∀ j ∈ beh i x, f j = g j) : bsum f i x = bsum g i x := by
  unfold bsum
  rw [List.map_congr_left h]
/-- a sum over two by their sides: no more than another one, if each side is, and what is one there is one here -/
theorem bsum_le {f g : Nat → Nat} {i q : Nat} {x y : I} (okx : okI x) (oky : okI y) (hrt : rets y = rets x) (hs : ∀ b, f (sel b q y) ≤ g (sel b i x)) (he : sel true i x = sel false i x → sel true q y = sel false q y) : bsum f q y ≤ bsum g i x := by
  cases hx : rets x with
  | true => rw [bsum_ret (by rw [hrt]; exact hx)]; exact Nat.zero_le _
  | false =>
    have hy : rets y = false := by rw [hrt]; exact hx
    have h1 := hs true
    have h2 := hs false
    by_cases e : sel true i x = sel false i x
    · rw [bsum_one okx hx e, bsum_one oky hy (he e)]; exact h1
    · rw [bsum_two okx hx e]
      by_cases e2 : sel true q y = sel false q y
      · rw [bsum_one oky hy e2]; omega
      · rw [bsum_two oky hy e2]; omega
/-- how many ways from a place on; how many instructions they have together -/
def wyF (l : List I) : Nat → Nat → Nat
  | 0, _ => 0
  | n + 1, i => if rets (at0 l i) = true then 1 else bsum (wyF l n) i (at0 l i)
def wkF (l : List I) : Nat → Nat → Nat
  | 0, _ => 0
  | n + 1, i => wyF l (n + 1) i + bsum (wkF l n) i (at0 l i)
def ways (l : List I) (i : Nat) : Nat := wyF l (l.length - i) i
def work (l : List I) (i : Nat) : Nat := wkF l (l.length - i) i
theorem wyF_same {l : List I} (hr : right l) (ok : ∀ x ∈ l, okI x) : ∀ (d i n m : Nat), i < l.length → l.length ≤ i + d → d ≤ n → d ≤ m → wyF l n i = wyF l m i := by
  intro d
  induction d with
  | zero => intro i n m h1 h2; omega
  | succ d ih =>
    intro i n m hi hd hn hm
    obtain ⟨n, rfl⟩ : ∃ a, n = a + 1 := ⟨n - 1, by omega⟩
    obtain ⟨m, rfl⟩ : ∃ a, m = a + 1 := ⟨m - 1, by omega⟩
    rw [wyF, wyF]
    split
    · rfl
    · exact bsum_ext fun j hj => ih j n m (beh_lt hr ok hi hj) (by have := beh_gt hj; omega) (by omega) (by omega)
theorem ways_eq {l : List I} (hr : right l) (ok : ∀ x ∈ l, okI x) {i : Nat} (hi : i < l.length) : ways l i = if rets (at0 l i) = true then 1 else bsum (ways l) i (at0 l i) := by
  unfold ways
  rw [show l.length - i = (l.length - i - 1) + 1 by omega, wyF]
  split
  · rfl
  · exact bsum_ext fun j hj => wyF_same hr ok (l.length - j) j _ _ (beh_lt hr ok hi hj) (by omega) (by have := beh_gt hj; omega) (Nat.le_refl _)
theorem wkF_same {l : List I} (hr : right l) (ok : ∀ x ∈ l, okI x) : ∀ (d i n m : Nat), i < l.length → l.length ≤ i + d → d ≤ n → d ≤ m → wkF l n i = wkF l m i := by
  intro d
  induction d with
  | zero => intro i n m h1 h2; omega
  | succ d ih =>
    intro i n m hi hd hn hm
    obtain ⟨n, rfl⟩ : ∃ a, n = a + 1 := ⟨n - 1, by omega⟩
    obtain ⟨m, rfl⟩ : ∃ a, m = a + 1 := ⟨m - 1, by omega⟩
    rw [wkF, wkF, wyF_same hr ok (d + 1) i (n + 1) (m + 1) hi hd (by omega) (by omega)]
    congr 1
    exact bsum_ext fun j hj => ih j n m (beh_lt hr ok hi hj) (by have := beh_gt hj; omega) (by omega) (by omega)
theorem work_eq {l : List I} (hr : right l) (ok : ∀ x ∈ l, okI x) {i : Nat} (hi : i < l.length) : work l i = ways l i + bsum (work l) i (at0 l i) := by
  unfold work ways
  rw [show l.length - i = (l.length - i - 1) + 1 by omega, wkF]
  congr 1
  exact bsum_ext fun j hj => wkF_same hr ok (l.length - j) j _ _ (beh_lt hr ok hi hj) (by omega) (by have := beh_gt hj; omega) (Nat.le_refl _)
theorem ways_le_work {l : List I} (hr : right l) (ok : ∀ x ∈ l, okI x) {i : Nat} (hi : i < l.length) : ways l i ≤ work l i := by
  rw [work_eq hr ok hi]; omega
/-- no way has more instructions than there are from there on -/
theorem work_le {l : List I} (hr : right l) (ok : ∀ x ∈ l, okI x) : ∀ (d i : Nat), i < l.length → l.length ≤ i + d → work l i ≤ ways l i * (l.length - i) := by
  intro d
  induction d with
  | zero => intro i h1 h2; omega
  | succ d ih =>
    intro i hi hd
    rw [work_eq hr ok hi]
    have hs : ∀ b, rets (at0 l i) = false → sel b i (at0 l i) < l.length := fun b h => beh_lt hr ok hi (mem_beh.2 (mem_sel.2 ⟨h, b, rfl⟩))
    have hone : ∀ b, rets (at0 l i) = false → work l (sel b i (at0 l i)) ≤ ways l (sel b i (at0 l i)) * (l.length - i - 1) := fun b h => by
      have h1 := ih _ (hs b h) (by have := sel_gt b i (at0 l i); omega)
      have h2 : ways l (sel b i (at0 l i)) * (l.length - sel b i (at0 l i)) ≤ ways l (sel b i (at0 l i)) * (l.length - i - 1) := Nat.mul_le_mul_left _ (by have := sel_gt b i (at0 l i); omega)
      omega
    have hd1 : l.length - i = (l.length - i - 1) + 1 := by omega
    rw [hd1, Nat.mul_add, Nat.mul_one]
    cases hrt : rets (at0 l i) with
    | true => rw [bsum_ret hrt]; omega
    | false =>
      have hw := ways_eq hr ok hi
      rw [hrt, if_neg (by simp)] at hw
      have okx := at0_ok ok i
      by_cases e : sel true i (at0 l i) = sel false i (at0 l i)
      · rw [bsum_one okx hrt e] at hw ⊢
        have := hone true hrt
        rw [hw]; omega
      · rw [bsum_two okx hrt e] at hw ⊢
        have h1 := hone true hrt
        have h2 := hone false hrt
        rw [hw, Nat.add_mul]; omega
theorem ways_ja {l : List I} (hr : right l) (ok : ∀ x ∈ l, okI x) {i : Nat} (h : isJa (at0 l i) = true) : ways l i = ways l (tgt l i) := by
  rw [ways_eq hr ok (ja_lt h), if_neg (by rw [ja_rets hr ok h]; simp)]
  unfold bsum
  rw [tgt_beh h]; simp
theorem work_ja {l : List I} (hr : right l) (ok : ∀ x ∈ l, okI x) {i : Nat} (h : isJa (at0 l i) = true) : work l (tgt l i) ≤ work l i := by
  rw [work_eq hr ok (ja_lt h)]
  unfold bsum
  rw [tgt_beh h]; simp
theorem ways_jaN {l : List I} (hr : right l) (ok : ∀ x ∈ l, okI x) : ∀ (k t : Nat), ways l (jaN l k t) = ways l t := by
  intro k
  induction k with
  | zero => intro t; rfl
  | succ k ih =>
    intro t
    cases e : isJa (at0 l t) with
    | true => rw [jaN_ja e, ih, ways_ja hr ok e]
    | false => rw [jaN_not e]
theorem work_jaN {l : List I} (hr : right l) (ok : ∀ x ∈ l, okI x) : ∀ (k t : Nat), work l (jaN l k t) ≤ work l t := by
  intro k
  induction k with
  | zero => intro t; exact Nat.le_refl _
  | succ k ih =>
    intro t
    cases e : isJa (at0 l t) with
    | true => rw [jaN_ja e]; have := ih (tgt l t); have := work_ja hr ok e; omega
    | false => rw [jaN_not e]; exact Nat.le_refl _
/-- a round makes neither more -/
theorem round_ways {l : List I} (hr : right l) (ok : ∀ x ∈ l, okI x) : ∀ (d i : Nat), nd (strL l) i = true → l.length ≤ i + d → ways (roundL l) (cnt (strL l) i) ≤ ways l i ∧ work (roundL l) (cnt (strL l) i) ≤ work l i := by
  intro d
  induction d with
  | zero =>
    intro i hi hd
    have := nd_lt hi
    rw [strL_len] at this
    omega
  | succ d ih =>
    intro i hi hd
    have hil := nd_lt hi
    rw [strL_len] at hil
    have hcl := cnt_lt hi
    have hpr := round_right hr ok
    have hpo := rnd_ok hr ok
    have ex : at0 (roundL l) (cnt (strL l) i) = rndI (strL l) i := rndL_at hi
    have hrt : rets (at0 (roundL l) (cnt (strL l) i)) = rets (at0 l i) := by
      rw [ex]; exact rets_code (by rw [rndI_code, strL_code])
    have hsel : ∀ b, rets (at0 l i) = false → ways (roundL l) (sel b (cnt (strL l) i) (at0 (roundL l) (cnt (strL l) i))) ≤ ways l (sel b i (at0 l i)) ∧ work (roundL l) (sel b (cnt (strL l) i) (at0 (roundL l) (cnt (strL l) i))) ≤ work l (sel b i (at0 l i)) := fun b hn => by
      have hrc := str_rch hr ok (nd_iff.1 hi).1 hn b
      obtain ⟨k1, e1⟩ := sel_str (l := l) b i
      obtain ⟨k2, e2⟩ := nn_ja hr ok hrc
      have et : jaN l (k1 + k2) (sel b i (at0 l i)) = nn (strL l) (sel b i (at0 (strL l) i)) := by
        rw [e2, strL_at hil, e1, jaN_add]
      have hgt : i < nn (strL l) (sel b i (at0 (strL l) i)) := by
        rw [e2]
        have := jaN_ge l k2 (sel b i (at0 (strL l) i))
        have := sel_gt b i (at0 (strL l) i)
        omega
      obtain ⟨g1, g2⟩ := ih _ (nn_nd hr ok hrc) (by omega)
      rw [nn_cnt hr ok hrc, ← et, ways_jaN hr ok] at g1
      rw [nn_cnt hr ok hrc, ← et] at g2
      have g3 := work_jaN hr ok (k1 + k2) (sel b i (at0 l i))
      rw [ex, rnd_sel hi]
      exact ⟨g1, by omega⟩
    have hone : sel true i (at0 l i) = sel false i (at0 l i) → sel true (cnt (strL l) i) (at0 (roundL l) (cnt (strL l) i)) = sel false (cnt (strL l) i) (at0 (roundL l) (cnt (strL l) i)) := fun e => by
      rw [ex, rnd_sel hi, rnd_sel hi]
      congr 1
      rw [strL_at hil]
      by_cases h1 : kind (at0 l i).1 = 11
      · unfold sel; rw [strI_code, if_pos h1, if_pos h1]
      · by_cases h2 : kind (at0 l i).1 = 12
        · unfold sel at e ⊢
          rw [if_neg h1, if_pos h2, if_pos rfl, if_neg h1, if_pos h2, if_neg (by simp)] at e
          rw [strI_code, if_neg h1, if_pos h2, if_pos rfl, if_neg h1, if_pos h2, if_neg (by simp), strI_jif h2, e]
        · unfold sel; rw [strI_code, if_neg h1, if_neg h2, if_neg h1, if_neg h2]
    have okx := at0_ok ok i
    have oky := at0_ok hpo (cnt (strL l) i)
    have hways : ways (roundL l) (cnt (strL l) i) ≤ ways l i := by
      rw [ways_eq hpr hpo hcl, ways_eq hr ok hil, hrt]
      cases hx : rets (at0 l i) with
      | true => rw [if_pos rfl, if_pos rfl]; exact Nat.le_refl _
      | false =>
        rw [if_neg (by simp), if_neg (by simp)]
        exact bsum_le okx oky hrt (fun b => (hsel b hx).1) hone
    refine ⟨hways, ?_⟩
    rw [work_eq hpr hpo hcl, work_eq hr ok hil]
    have hb : bsum (work (roundL l)) (cnt (strL l) i) (at0 (roundL l) (cnt (strL l) i)) ≤ bsum (work l) i (at0 l i) := by
      cases hx : rets (at0 l i) with
      | true => rw [bsum_ret (by rw [hrt]; exact hx)]; exact Nat.zero_le _
      | false => exact bsum_le okx oky hrt (fun b => (hsel b hx).2) hone
    omega
theorem round_ways0 {l : List I} (hr : right l) (ok : ∀ x ∈ l, okI x) : ways (roundL l) 0 ≤ ways l 0 ∧ work (roundL l) 0 ≤ work l 0 := by
  have hc := str0 hr ok
  obtain ⟨k, e⟩ := nn_ja hr ok hc
  obtain ⟨g1, g2⟩ := round_ways hr ok l.length (nn (strL l) 0) (nn_nd hr ok hc) (by omega)
  rw [nn_cnt hr ok hc] at g1 g2
  have hz : cnt (strL l) 0 = 0 := rfl
  rw [hz, e, ways_jaN hr ok] at g1
  rw [hz, e] at g2
  have := work_jaN hr ok k 0
  exact ⟨g1, by omega⟩
theorem prF_ways : ∀ (n : Nat) {l : List I}, right l → (∀ x ∈ l, okI x) → ways (prF n l) 0 ≤ ways l 0 ∧ work (prF n l) 0 ≤ work l 0 := by
  intro n
  induction n with
  | zero => intro l _ _; exact ⟨Nat.le_refl _, Nat.le_refl _⟩
  | succ n ih =>
    intro l hr ok
    by_cases e : roundL l = l
    · rw [prF_fix e]; exact ⟨Nat.le_refl _, Nat.le_refl _⟩
    · rw [prF, if_neg e]
      obtain ⟨a, b⟩ := ih (round_right hr ok) (rnd_ok hr ok)
      obtain ⟨c, d⟩ := round_ways0 hr ok
      exact ⟨by omega, by omega⟩
theorem prune_ways {l : List I} (hr : right l) (ok : ∀ x ∈ l, okI x) : ways (pruneL l) 0 ≤ ways l 0 ∧ work (pruneL l) 0 ≤ work l 0 := prF_ways _ hr ok
end Go.Proofs.Ytfmlefadifpocaa.M
namespace Go.Proofs.Ytfmlefadifpocaa.M
set_option linter.unusedVariables false
set_option linter.unusedSectionVars false

/-- added up over the first q -/
def sumT (f : Nat → Nat) (js : List Nat) (q : Nat) : Nat := ((js.take q).map f).sum
theorem sumT_zero (f : Nat → Nat) (js : List Nat) : sumT f js 0 = 0 := by simp [sumT]
theorem sumT_succ (f : Nat → Nat) {js : List Nat} {q : Nat} (h : q < js.length) : sumT f js (q + 1) = sumT f js q + f js[q] := by
  unfold sumT
  rw [List.take_succ_eq_append_getElem h, List.map_append, List.sum_append]
  simp
theorem sumT_all (f : Nat → Nat) (i : Nat) (x : I) : sumT f (beh i x) (beh i x).length = bsum f i x := by
  unfold sumT bsum; rw [List.take_length]
theorem sumT_le (f : Nat → Nat) (js : List Nat) : ∀ q, sumT f js q ≤ (js.map f).sum := by
  intro q
  unfold sumT
  conv => rhs; rw [← List.take_append_drop q js, List.map_append, List.sum_append]
  omega
theorem held_small {n : Nat} (h : n ≤ 1125899906842624) : held n = n := by unfold held; omega
theorem ways_pos {l : List I} (hr : right l) (ok : ∀ x ∈ l, okI x) : ∀ (d i : Nat), i < l.length → l.length ≤ i + d → 0 < ways l i := by
  intro d
  induction d with
  | zero => intro i h1 h2; omega
  | succ d ih =>
    intro i hi hd
    rw [ways_eq hr ok hi]
    cases hrt : rets (at0 l i) with
    | true => rw [if_pos rfl]; omega
    | false =>
      rw [if_neg (by simp)]
      have hs := beh_lt hr ok hi (mem_beh.2 (mem_sel.2 ⟨hrt, true, rfl⟩))
      have := ih _ hs (by have := sel_gt true i (at0 l i); omega)
      by_cases e : sel true i (at0 l i) = sel false i (at0 l i)
      · rw [bsum_one (at0_ok ok i) hrt e]; exact this
      · rw [bsum_two (at0_ok ok i) hrt e]; omega
/-- behind a place are no more ways than from it on -/
theorem ways_beh {l : List I} (hr : right l) (ok : ∀ x ∈ l, okI x) {i j : Nat} (hi : i < l.length) (h : j ∈ beh i (at0 l i)) : ways l j ≤ ways l i := by
  obtain ⟨hrt, b, rfl⟩ := mem_sel.1 (mem_beh.1 h)
  rw [ways_eq hr ok hi, if_neg (by rw [hrt]; simp)]
  by_cases e : sel true i (at0 l i) = sel false i (at0 l i)
  · rw [bsum_one (at0_ok ok i) hrt e]
    cases b with
    | true => exact Nat.le_refl _
    | false => rw [e]; exact Nat.le_refl _
  · rw [bsum_two (at0_ok ok i) hrt e]
    cases b <;> omega
/-- the instructions of all ways from a place on, on which m are behind it already -/
def ek (l : List I) (i m : Nat) : Nat := ways l i * m + work l i
theorem ek_ret {l : List I} (hr : right l) (ok : ∀ x ∈ l, okI x) {i : Nat} (hi : i < l.length) (h : rets (at0 l i) = true) (m : Nat) : ek l i m = m + 1 ∧ ways l i = 1 := by
  have hw := ways_eq hr ok hi
  rw [h, if_pos rfl] at hw
  unfold ek
  rw [work_eq hr ok hi, bsum_ret h, hw]
  omega
theorem bsum_mul {l : List I} (hr : right l) (ok : ∀ x ∈ l, okI x) (f g : Nat → Nat) (c i : Nat) (x : I) : bsum (fun j => f j * c + g j) i x = bsum f i x * c + bsum g i x := by
  unfold bsum
  induction beh i x with
  | nil => simp
  | cons a t ih =>
    simp only [List.map_cons, List.sum_cons]
    rw [ih, Nat.add_mul]
    omega
theorem ek_on {l : List I} (hr : right l) (ok : ∀ x ∈ l, okI x) {i : Nat} (hi : i < l.length) (h : rets (at0 l i) = false) (m : Nat) : ek l i m = bsum (fun j => ek l j (m + 1)) i (at0 l i) := by
  have e := bsum_mul hr ok (ways l) (work l) (m + 1) i (at0 l i)
  have hw := ways_eq hr ok hi
  rw [h, if_neg (by simp)] at hw
  have : bsum (fun j => ek l j (m + 1)) i (at0 l i) = bsum (fun j => ways l j * (m + 1) + work l j) i (at0 l i) := rfl
  rw [this, e, ← hw]
  unfold ek
  rw [work_eq hr ok hi, Nat.mul_add, Nat.mul_one]
  omega

/-- a row of n questions -/
def rowP : Nat → List I
  | 0 => []
  | n + 1 => rowP n ++ [(21, 0, 1, 5), (0, 0, 0, 0)]
def rowL (n : Nat) : List I := rowP n ++ [(6, 0, 0, 0)]
theorem rowP_len : ∀ n, (rowP n).length = 2 * n := by
  intro n
  induction n with
  | zero => rfl
  | succ n ih => rw [rowP, List.length_append, ih]; simp; omega
theorem rowL_len (n : Nat) : (rowL n).length = 2 * n + 1 := by unfold rowL; rw [List.length_append, rowP_len]; rfl
theorem rowP_get : ∀ (n k : Nat), k < n → (rowP n)[2 * k]? = some (21, 0, 1, 5) ∧ (rowP n)[2 * k + 1]? = some (0, 0, 0, 0) := by
  intro n
  induction n with
  | zero => intro k h; omega
  | succ n ih =>
    intro k h
    rw [rowP]
    by_cases e : k = n
    · subst e
      rw [List.getElem?_append_right (by rw [rowP_len]; omega), List.getElem?_append_right (by rw [rowP_len]; omega), rowP_len]
      rw [show 2 * k - 2 * k = 0 by omega, show 2 * k + 1 - 2 * k = 1 by omega]
      exact ⟨rfl, rfl⟩
    · rw [List.getElem?_append_left (by rw [rowP_len]; omega), List.getElem?_append_left (by rw [rowP_len]; omega)]
      exact ih k (by omega)
theorem rowL_jif {n k : Nat} (h : k < n) : at0 (rowL n) (2 * k) = (21, 0, 1, 5) := by
  unfold at0 rowL
  rw [List.getD_eq_getElem?_getD, List.getElem?_append_left (by rw [rowP_len]; omega), (rowP_get n k h).1]; rfl
theorem rowL_imm {n k : Nat} (h : k < n) : at0 (rowL n) (2 * k + 1) = (0, 0, 0, 0) := by
  unfold at0 rowL
  rw [List.getD_eq_getElem?_getD, List.getElem?_append_left (by rw [rowP_len]; omega), (rowP_get n k h).2]; rfl
theorem rowL_ret (n : Nat) : at0 (rowL n) (2 * n) = (6, 0, 0, 0) := by
  unfold at0 rowL
  rw [List.getD_eq_getElem?_getD, List.getElem?_append_right (by rw [rowP_len]; omega), rowP_len, Nat.sub_self]; rfl
theorem rowL_cases {n i : Nat} (h : i < (rowL n).length) : (∃ k, k < n ∧ i = 2 * k) ∨ (∃ k, k < n ∧ i = 2 * k + 1) ∨ i = 2 * n := by
  rw [rowL_len] at h
  by_cases e : i = 2 * n
  · exact .inr (.inr e)
  · by_cases e2 : i % 2 = 0
    · exact .inl ⟨i / 2, by omega, by omega⟩
    · exact .inr (.inl ⟨i / 2, by omega, by omega⟩)
theorem rowL_ok (n : Nat) : ∀ x ∈ rowL n, okI x := by
  intro x hx
  obtain ⟨i, hi, rfl⟩ := List.getElem_of_mem hx
  rw [← at0_eq hi]
  rcases rowL_cases hi with ⟨k, hk, rfl⟩ | ⟨k, hk, rfl⟩ | rfl
  · rw [rowL_jif hk]; unfold okI; decide
  · rw [rowL_imm hk]; unfold okI; decide
  · rw [rowL_ret]; unfold okI; decide
theorem k21 : kind 21 = 12 := by decide
theorem k0 : kind 0 = 3 := by decide
theorem k6 : kind 6 = 13 := by decide
theorem rowL_right {n : Nat} (hn : n ≤ 2000) : right (rowL n) := by
  have hlen := rowL_len n
  refine (right_iff _).2 ⟨⟨by omega, by omega⟩, fun i hi => ?_, ?_, fun i hi => ?_⟩
  · unfold wrong
    rw [List.getElem?_eq_getElem hi]
    simp only [bne_eq_false_iff_eq]
    rw [← at0_eq hi]
    rcases rowL_cases hi with ⟨k, hk, rfl⟩ | ⟨k, hk, rfl⟩ | rfl
    · rw [rowL_jif hk]
      unfold loc
      simp only [k21]
      rw [if_neg (by decide), if_neg (by decide), if_neg (by decide), if_neg (by decide), if_neg (by decide), if_true, if_neg (by omega)]
    · rw [rowL_imm hk]
      unfold loc
      simp only [k0]
      rw [if_neg (by decide), if_neg (by decide), if_neg (by decide), if_neg (by decide), if_neg (by decide), if_neg (by decide)]
    · rw [rowL_ret]
      unfold loc
      simp only [k6]
      rw [if_neg (by decide), if_neg (by decide), if_neg (by decide), if_neg (by decide), if_neg (by decide), if_neg (by decide)]
  · show rets (at0 (rowL n) ((rowL n).length - 1)) = true
    rw [hlen, Nat.add_sub_cancel, rowL_ret]
    decide
  · unfold raw
    rw [List.getElem?_eq_getElem hi]
    simp only
    rw [← at0_eq hi]
    have : rdW (at0 (rowL n) i) = false := by
      rcases rowL_cases hi with ⟨k, hk, rfl⟩ | ⟨k, hk, rfl⟩ | rfl
      · rw [rowL_jif hk]; decide
      · rw [rowL_imm hk]; decide
      · rw [rowL_ret]; decide
    rw [this]; rfl
theorem rowL_ways {n : Nat} (hn : n ≤ 2000) : ∀ (d k : Nat), k + d = n → ways (rowL n) (2 * k) = 2 ^ d := by
  have hr := rowL_right hn
  have ok := rowL_ok n
  have hlen := rowL_len n
  intro d
  induction d with
  | zero =>
    intro k hk
    obtain rfl : k = n := by omega
    rw [ways_eq hr ok (by omega), rowL_ret, if_pos (by decide)]
    try rfl
  | succ d ih =>
    intro k hk
    have h1 := ih (k + 1) (by omega)
    rw [show 2 * (k + 1) = 2 * k + 2 by omega] at h1
    have h2 : ways (rowL n) (2 * k + 1) = ways (rowL n) (2 * k + 2) := by
      rw [ways_eq hr ok (by omega), rowL_imm (by omega), if_neg (by decide)]
      unfold bsum
      rw [beh_not (by decide), nxt_on (by decide)]
      simp
    rw [ways_eq hr ok (by omega), rowL_jif (by omega), if_neg (by decide)]
    unfold bsum
    rw [beh_jif (by decide)]
    simp only
    rw [if_neg (by decide), if_neg (by decide)]
    simp only [Int.toNat_zero, Int.toNat_one, Nat.add_zero, List.map_cons, List.map_nil, List.sum_cons, List.sum_nil]
    rw [show 2 * k + 1 + 1 = 2 * k + 2 by omega, h2, h1, Nat.pow_succ]
    omega
theorem rowL_held {n : Nat} (hn : n ≤ 2000) : held (ways (rowL n) 0) = 2 ^ min n 50 := by
  have := rowL_ways hn n 0 (by omega)
  rw [Nat.mul_zero] at this
  rw [this]
  by_cases h : n ≤ 50
  · rw [Nat.min_eq_left h, held_small]
    have : 2 ^ n ≤ 2 ^ 50 := Nat.pow_le_pow_right (by omega) h
    omega
  · rw [Nat.min_eq_right (by omega)]
    have : 2 ^ 50 ≤ 2 ^ n := Nat.pow_le_pow_right (by omega) (by omega)
    unfold held
    omega
end Go.Proofs.Ytfmlefadifpocaa.M
