/-
  Rounds, till one changes nothing; what is fixed; what stands behind the end is gone.
-/
import Derived.Test.YtfmlefadifpocaaJM
namespace Go.Proofs.Ytfmlefadifpocaa.M
set_option linter.unusedVariables false
set_option linter.unusedSectionVars false

def prF : Nat → List I → List I
  | 0, l => l
  | n + 1, l => if roundL l = l then roundL l else prF n (roundL l)
def pruneL (l : List I) : List I := prF (l.length + 2) l
theorem at0_map (l : List I) : (List.range l.length).map (at0 l) = l := by
  apply List.ext_getElem
  · rw [List.length_map, List.length_range]
  · intro i h1 h2
    rw [List.getElem_map, List.getElem_range, at0_eq h2]

/-- if a round leaves all, it is the list whose jumps go straight -/
theorem round_all {l : List I} (hr : right l) (ok : ∀ x ∈ l, okI x) (h : (roundL l).length = l.length) : (∀ i, i < l.length → nd (strL l) i = true) ∧ roundL l = strL l := by
  have hn := strL_len l
  have ha : ∀ i, i < l.length → nd (strL l) i = true := by
    have : (lsP (nd (strL l)) l.length).length = l.length := by
      unfold roundL at h
      rw [rndL_len, hn] at h
      exact h
    exact lsP_all this
  refine ⟨ha, ?_⟩
  have hc : ∀ i, i ≤ l.length → cnt (strL l) i = i := fun i hi => cnP_all fun j hj => ha j (by omega)
  have hls : lsP (nd (strL l)) (strL l).length = List.range (strL l).length := by
    unfold lsP
    rw [List.filter_eq_self]
    intro i hi
    have := List.mem_range.1 hi
    rw [hn] at this
    exact ha i this
  unfold roundL rndL
  rw [hls]
  conv => rhs; rw [← at0_map (strL l)]
  refine List.map_congr_left fun i hi => ?_
  have hi := List.mem_range.1 hi
  rw [hn] at hi
  obtain ⟨a0, a1, a2, a3⟩ := at0_ok (strL_ok hr ok) i
  unfold rndI
  split
  · rename_i h1
    have hj := isJa_iff.2 h1
    have hjl : isJa (at0 l i) = true := by rw [← strL_ja]; exact hj
    have ht : tgt (strL l) i ≤ l.length := by
      rw [strL_tgt hjl]; exact Nat.le_of_lt (endOf_lt hr ok hi)
    rw [hc _ ht, hc i (by omega)]
    unfold tgt
    generalize at0 (strL l) i = x at *
    obtain ⟨c, t, f, k⟩ := x
    simp only at a3 ⊢
    congr 3
    omega
  · rename_i h1
    split
    · rename_i h2
      have hrt : rets (at0 l i) = false := by
        unfold rets
        rw [← strL_code, h2]; rfl
      have g1 := str_sel hr ok hi hrt true
      have g2 := str_sel hr ok hi hrt false
      unfold sel at g1 g2
      rw [if_neg h1, if_pos h2, if_pos rfl] at g1
      rw [if_neg h1, if_pos h2, if_neg (by simp)] at g2
      rw [hc _ (Nat.le_of_lt g1), hc _ (Nat.le_of_lt g2), hc i (by omega)]
      generalize at0 (strL l) i = x at *
      obtain ⟨c, t, f, k⟩ := x
      simp only at a1 a2 ⊢
      have e1 : ((i + 1 + t.toNat - i - 1 : Nat) : Int) = t := by omega
      have e2 : ((i + 1 + f.toNat - i - 1 : Nat) : Int) = f := by omega
      rw [e1, e2]
    · rfl
/-- and the next one changes nothing -/
theorem round_fix {l : List I} (hr : right l) (ok : ∀ x ∈ l, okI x) (h : (roundL l).length = l.length) : roundL (roundL l) = roundL l := by
  have e := (round_all hr ok h).2
  have e2 : roundL (strL l) = roundL l := by unfold roundL; rw [strL_strL]
  rw [e, e2, e]
theorem prF_fix {l : List I} (h : roundL l = l) : ∀ n, prF n l = l := by
  intro n
  cases n with
  | zero => rfl
  | succ n => rw [prF, if_pos h, h]
theorem prF_spec : ∀ (n : Nat) {l : List I}, right l → (∀ x ∈ l, okI x) → l.length + 2 ≤ n → roundL (prF n l) = prF n l ∧ right (prF n l) ∧ (∀ x ∈ prF n l, okI x) ∧ (prF n l).length ≤ l.length ∧
    ∀ r, (run (prF n l) r).1.an = (run l r).1.an ∧ ev (prF n l) (run (prF n l) r).2 = ev l (run l r).2 ∧ (run (prF n l) r).2.length ≤ (run l r).2.length := by
  intro n
  induction n with
  | zero => intro l _ _ h; omega
  | succ n ih =>
    intro l hr ok hn
    by_cases e : roundL l = l
    · rw [prF_fix e]
      exact ⟨e, hr, ok, Nat.le_refl _, fun r => ⟨rfl, rfl, Nat.le_refl _⟩⟩
    · rw [prF, if_neg e]
      have hx := round_right hr ok
      have ox := rnd_ok hr ok
      have hl := (round_len hr ok).2
      by_cases e2 : (roundL l).length = l.length
      · have hf := round_fix hr ok e2
        rw [prF_fix hf]
        exact ⟨hf, hx, ox, hl, fun r => round_run hr ok r⟩
      · obtain ⟨a, b, c, d, f⟩ := ih hx ox (by omega)
        refine ⟨a, b, c, by omega, fun r => ?_⟩
        obtain ⟨f1, f2, f3⟩ := f r
        obtain ⟨g1, g2, g3⟩ := round_run hr ok r
        exact ⟨by rw [f1, g1], by rw [f2, g2], by omega⟩
theorem prF_same : ∀ (n m : Nat) {l : List I}, right l → (∀ x ∈ l, okI x) → l.length + 2 ≤ n → l.length + 2 ≤ m → prF n l = prF m l := by
  intro n
  induction n with
  | zero => intro m l _ _ h; omega
  | succ n ih =>
    intro m l hr ok hn hm
    obtain ⟨m, rfl⟩ : ∃ a, m = a + 1 := ⟨m - 1, by omega⟩
    by_cases e : roundL l = l
    · rw [prF_fix e, prF_fix e]
    · rw [prF, if_neg e, prF, if_neg e]
      by_cases e2 : (roundL l).length = l.length
      · have hf := round_fix hr ok e2
        rw [prF_fix hf, prF_fix hf]
      · have hl := (round_len hr ok).2
        exact ih m (round_right hr ok) (rnd_ok hr ok) (by omega) (by omega)
/-- a round first, and then the rest -/
theorem prune_step {l : List I} (hr : right l) (ok : ∀ x ∈ l, okI x) : pruneL l = pruneL (roundL l) := by
  by_cases e : roundL l = l
  · rw [e]
  · have h1 : pruneL l = prF (l.length + 1) (roundL l) := by
      unfold pruneL
      rw [show l.length + 2 = (l.length + 1) + 1 by omega, prF, if_neg e]
    rw [h1]
    by_cases e2 : (roundL l).length = l.length
    · have hf := round_fix hr ok e2
      unfold pruneL
      rw [prF_fix hf, prF_fix hf]
    · have hl := (round_len hr ok).2
      exact prF_same _ _ (round_right hr ok) (rnd_ok hr ok) (by omega) (Nat.le_refl _)
theorem prune_fix {l : List I} (h : roundL l = l) : pruneL l = l := prF_fix h _
theorem prune_spec {l : List I} (hr : right l) (ok : ∀ x ∈ l, okI x) : roundL (pruneL l) = pruneL l ∧ right (pruneL l) ∧ (∀ x ∈ pruneL l, okI x) ∧ (pruneL l).length ≤ l.length ∧
    ∀ r, (run (pruneL l) r).1.an = (run l r).1.an ∧ ev (pruneL l) (run (pruneL l) r).2 = ev l (run l r).2 ∧ (run (pruneL l) r).2.length ≤ (run l r).2.length :=
  prF_spec _ hr ok (Nat.le_refl _)

theorem fix_str {p : List I} (hr : right p) (ok : ∀ x ∈ p, okI x) (hf : roundL p = p) : strL p = p ∧ ∀ i, i < p.length → nd p i = true := by
  obtain ⟨h1, h2⟩ := round_all hr ok (by rw [hf])
  have e : strL p = p := by rw [← h2, hf]
  rw [e] at h1
  exact ⟨e, h1⟩
theorem fix_rch {p : List I} (hr : right p) (ok : ∀ x ∈ p, okI x) (hf : roundL p = p) : ∀ i, i < p.length → rch p i = true := fun i hi => (nd_iff.1 ((fix_str hr ok hf).2 i hi)).1
theorem fix_ja {p : List I} (hr : right p) (ok : ∀ x ∈ p, okI x) (hf : roundL p = p) {i : Nat} (h : isJa (at0 p i) = true) : isJa (at0 p (tgt p i)) = false ∧ tgt p i ≠ i + 1 := by
  obtain ⟨e, hn⟩ := fix_str hr ok hf
  have ht : tgt p i = endOf p i := by
    have := strL_tgt h
    rw [e] at this
    exact this
  refine ⟨by rw [ht]; exact endOf_stop p i, fun e2 => ?_⟩
  rcases (nd_iff.1 (hn i (ja_lt h))).2 with h1 | ⟨k, h1, h2, _⟩
  · rw [h] at h1; cases h1
  · omega
theorem fix_jif {p : List I} (hr : right p) (ok : ∀ x ∈ p, okI x) (hf : roundL p = p) {i : Nat} (hi : i < p.length) (h : kind (at0 p i).1 = 12) (b : Bool) (hj : isJa (at0 p (sel b i (at0 p i))) = true) : i + 256 < tgt p (sel b i (at0 p i)) := by
  obtain ⟨e, _⟩ := fix_str hr ok hf
  have hx : at0 p i = strI p i := by
    have := strL_at hi
    rw [e] at this
    exact this
  have hxx := hx
  rw [strI_jif h] at hx
  obtain ⟨a0, a1, a2, a3⟩ := at0_ok ok i
  have hst : ∀ b, ∃ t, sel b i (at0 p i) = strt p i t := fun b => by
    have g1 := strt_ge p i (i + 1 + (at0 p i).2.1.toNat)
    have g2 := strt_ge p i (i + 1 + (at0 p i).2.2.1.toNat)
    have e1 : (at0 p i).2.1 = ((strt p i (i + 1 + (at0 p i).2.1.toNat) - i - 1 : Nat) : Int) := congrArg (fun x : I => x.2.1) hx
    have e2 : (at0 p i).2.2.1 = ((strt p i (i + 1 + (at0 p i).2.2.1.toNat) - i - 1 : Nat) : Int) := congrArg (fun x : I => x.2.2.1) hx
    unfold sel
    rw [if_neg (show ¬ kind (at0 p i).1 = 11 by omega), if_pos h]
    cases b with
    | true =>
      rw [if_pos rfl]
      refine ⟨i + 1 + (at0 p i).2.1.toNat, ?_⟩
      omega
    | false =>
      rw [if_neg (by simp)]
      refine ⟨i + 1 + (at0 p i).2.2.1.toNat, ?_⟩
      omega
  obtain ⟨t, et⟩ := hst b
  rw [et] at hj ⊢
  have := strt_stop p i t
  by_cases h2 : tgt p (strt p i t) ≤ i + 256
  · exact absurd ⟨hj, h2⟩ this
  · omega

theorem app_at {l : List I} (d : List I) {i : Nat} (hi : i < l.length) : at0 (l ++ d) i = at0 l i := by
  unfold at0
  rw [List.getD_eq_getElem?_getD, List.getD_eq_getElem?_getD, List.getElem?_append_left hi]
theorem app_tgt {l : List I} (d : List I) {i : Nat} (hi : i < l.length) : tgt (l ++ d) i = tgt l i := by unfold tgt; rw [app_at d hi]
theorem app_jaN {l : List I} (hr : right l) (ok : ∀ x ∈ l, okI x) (d : List I) : ∀ (n i : Nat), i < l.length → jaN (l ++ d) n i = jaN l n i := by
  intro n
  induction n with
  | zero => intro i _; rfl
  | succ n ih =>
    intro i hi
    cases h : isJa (at0 l i) with
    | true => rw [jaN_ja (by rw [app_at d hi]; exact h), jaN_ja h, app_tgt d hi, ih _ (tgt_lt hr ok h)]
    | false => rw [jaN_not (by rw [app_at d hi]; exact h), jaN_not h]
theorem app_end {l : List I} (hr : right l) (ok : ∀ x ∈ l, okI x) (d : List I) {i : Nat} (hi : i < l.length) : endOf (l ++ d) i = endOf l i := by
  unfold endOf
  rw [app_jaN hr ok d _ i hi, List.length_append, ← jaN_add]
  exact jaN_not (endOf_stop l i) _
theorem app_strN {l : List I} (hr : right l) (ok : ∀ x ∈ l, okI x) (d : List I) (f : Nat) : ∀ (n t : Nat), t < l.length → strN (l ++ d) f n t = strN l f n t := by
  intro n
  induction n with
  | zero => intro t _; rfl
  | succ n ih =>
    intro t ht
    by_cases h : isJa (at0 l t) = true ∧ tgt l t ≤ f + 256
    · rw [strN_go (by rw [app_at d ht, app_tgt d ht]; exact h), strN_go h, app_tgt d ht, ih _ (tgt_lt hr ok h.1)]
    · rw [strN_no (by rw [app_at d ht, app_tgt d ht]; exact h), strN_no h]
theorem strN_add {l : List I} (hr : right l) (ok : ∀ x ∈ l, okI x) (f m : Nat) : ∀ (n t : Nat), strN l f m (strN l f n t) = strN l f (n + m) t := by
  intro n
  induction n with
  | zero => intro t; rw [Nat.zero_add]; rfl
  | succ n ih =>
    intro t
    by_cases h : isJa (at0 l t) = true ∧ tgt l t ≤ f + 256
    · rw [strN_go h, ih, show n + 1 + m = (n + m) + 1 by omega, strN_go h]
    · rw [strN_no h, strN_no h, strN_no h]
theorem app_strt {l : List I} (hr : right l) (ok : ∀ x ∈ l, okI x) (d : List I) (f : Nat) {t : Nat} (ht : t < l.length) : strt (l ++ d) f t = strt l f t := by
  unfold strt
  rw [app_strN hr ok d f _ t ht, List.length_append, ← strN_add hr ok]
  exact strN_no (strt_stop l f t) _
theorem app_strI {l : List I} (hr : right l) (ok : ∀ x ∈ l, okI x) (d : List I) {i : Nat} (hi : i < l.length) : strI (l ++ d) i = strI l i := by
  unfold strI
  rw [app_at d hi, app_end hr ok d hi]
  by_cases h1 : kind (at0 l i).1 = 11
  · rw [if_pos h1, if_pos h1]
  · rw [if_neg h1, if_neg h1]
    by_cases h2 : kind (at0 l i).1 = 12
    · have hrt : rets (at0 l i) = false := by unfold rets; rw [h2]; rfl
      have g : ∀ b, sel b i (at0 l i) < l.length := fun b => beh_lt hr ok hi (mem_beh.2 (mem_sel.2 ⟨hrt, b, rfl⟩))
      have g1 := g true
      have g2 := g false
      unfold sel at g1 g2
      rw [if_neg h1, if_pos h2, if_pos rfl] at g1
      rw [if_neg h1, if_pos h2, if_neg (by simp)] at g2
      rw [if_pos h2, if_pos h2, app_strt hr ok d i g1, app_strt hr ok d i g2]
    · rw [if_neg h2, if_neg h2]
theorem app_str {l : List I} (hr : right l) (ok : ∀ x ∈ l, okI x) (d : List I) {i : Nat} (hi : i < l.length) : at0 (strL (l ++ d)) i = at0 (strL l) i := by
  rw [strL_at (by rw [List.length_append]; omega), strL_at hi, app_strI hr ok d hi]
theorem app_rch {l : List I} (hr : right l) (ok : ∀ x ∈ l, okI x) (d : List I) (j : Nat) : rch (strL (l ++ d)) j = true ↔ j < l.length ∧ rch (strL l) j = true := by
  have hlen : (strL (l ++ d)).length = l.length + d.length := by rw [strL_len, List.length_append]
  constructor
  · intro h
    refine Bare.ind (l := strL (l ++ d)) (w := -1) (P := fun j => j < l.length ∧ rch (strL l) j = true) (fun _ => ⟨len0 hr ok, str0 hr ok⟩) (fun i j hi _ ih _ hj _ => ?_) h
    rw [← at0_eq hi, app_str hr ok d ih.1] at hj
    obtain ⟨h1, b, rfl⟩ := mem_sel.1 hj
    rw [rets_code (strL_code l i)] at h1
    exact ⟨str_sel hr ok ih.1 h1 b, str_rch hr ok ih.2 h1 b⟩
  · rintro ⟨_, h⟩
    refine Bare.ind (l := strL l) (w := -1) (P := fun j => rch (strL (l ++ d)) j = true) (fun _ => rch_zero (by rw [hlen]; have := len0 hr ok; omega)) (fun i j hi _ ih hw hj hl => ?_) h
    have hi' : i < l.length := by rw [strL_len] at hi; exact hi
    have hl' : j < l.length := by rw [strL_len] at hl; exact hl
    have hx : i < (strL (l ++ d)).length := by omega
    have e : (strL (l ++ d))[i] = (strL l)[i] := by rw [← at0_eq hx, ← at0_eq hi, app_str hr ok d hi']
    exact Bare.step hx ih (by rw [e]; exact hw) (by rw [e]; exact hj) (by omega)
theorem app_nd_out {l : List I} (hr : right l) (ok : ∀ x ∈ l, okI x) (d : List I) {i : Nat} (hi : l.length ≤ i) : nd (strL (l ++ d)) i = false := by
  cases h : nd (strL (l ++ d)) i with
  | false => rfl
  | true => have := ((app_rch hr ok d i).1 (nd_iff.1 h).1).1; omega
theorem app_nd {l : List I} (hr : right l) (ok : ∀ x ∈ l, okI x) (d : List I) : ∀ (k i : Nat), l.length ≤ i + k → i < l.length → nd (strL (l ++ d)) i = nd (strL l) i := by
  intro k
  induction k with
  | zero => intro i h1 h2; omega
  | succ k ih =>
    intro i h1 hi
    rw [Bool.eq_iff_iff, nd_iff, nd_iff, app_str hr ok d hi]
    have hrc : rch (strL (l ++ d)) i = true ↔ rch (strL l) i = true := by
      rw [app_rch hr ok d]; exact ⟨fun h => h.2, fun h => ⟨hi, h⟩⟩
    rw [hrc]
    refine and_congr_right fun _ => ?_
    cases hj : isJa (at0 (strL l) i) with
    | false => exact ⟨fun _ => .inl rfl, fun _ => .inl rfl⟩
    | true =>
      refine or_congr_right ?_
      have hjl : isJa (at0 l i) = true := by rw [← strL_ja]; exact hj
      have ht : tgt (strL (l ++ d)) i = tgt (strL l) i := by unfold tgt; rw [app_str hr ok d hi]
      have htl : tgt (strL l) i < l.length := by rw [strL_tgt hjl]; exact endOf_lt hr ok hi
      rw [ht]
      constructor
      · rintro ⟨q, a, b, c⟩
        exact ⟨q, a, b, by rw [← ih q (by omega) (by omega)]; exact c⟩
      · rintro ⟨q, a, b, c⟩
        exact ⟨q, a, b, by rw [ih q (by omega) (by omega)]; exact c⟩
theorem app_cnt {l : List I} (hr : right l) (ok : ∀ x ∈ l, okI x) (d : List I) {j : Nat} (hj : j ≤ l.length) : cnt (strL (l ++ d)) j = cnt (strL l) j := by
  induction j with
  | zero => rfl
  | succ j ih =>
    have := ih (by omega)
    unfold cnt at *
    rw [cnP_succ, cnP_succ, this, app_nd hr ok d l.length j (by omega) (by omega)]
theorem app_ls {l : List I} (hr : right l) (ok : ∀ x ∈ l, okI x) (d : List I) : ∀ m, lsP (nd (strL (l ++ d))) (l.length + m) = lsP (nd (strL l)) l.length := by
  intro m
  induction m with
  | zero =>
    unfold lsP
    refine List.filter_congr fun i hi => ?_
    exact app_nd hr ok d l.length i (by omega) (List.mem_range.1 hi)
  | succ m ih =>
    rw [← Nat.add_assoc, lsP_succ, ih, app_nd_out hr ok d (by omega)]
    simp
/-- what stands behind a filter's end is gone behind a round -/
theorem app_round {l : List I} (hr : right l) (ok : ∀ x ∈ l, okI x) (d : List I) : roundL (l ++ d) = roundL l := by
  unfold roundL rndL
  have h1 : (strL (l ++ d)).length = l.length + d.length := by rw [strL_len, List.length_append]
  rw [h1, strL_len, app_ls hr ok d]
  refine List.map_congr_left fun i hi => ?_
  obtain ⟨hil, hn⟩ := lsP_mem.1 hi
  have hc := fun j hj => app_cnt hr ok d (j := j) hj
  have ht : tgt (strL (l ++ d)) i = tgt (strL l) i := by unfold tgt; rw [app_str hr ok d hil]
  unfold rndI
  rw [app_str hr ok d hil, ht, hc i (by omega)]
  by_cases k1 : kind (at0 (strL l) i).1 = 11
  · have hjl : isJa (at0 l i) = true := by rw [← strL_ja]; exact isJa_iff.2 k1
    rw [if_pos k1, if_pos k1, hc _ (by rw [strL_tgt hjl]; exact Nat.le_of_lt (endOf_lt hr ok hil))]
  · rw [if_neg k1, if_neg k1]
    by_cases k2 : kind (at0 (strL l) i).1 = 12
    · have hrt : rets (at0 l i) = false := by unfold rets; rw [← strL_code, k2]; rfl
      have g1 := str_sel hr ok hil hrt true
      have g2 := str_sel hr ok hil hrt false
      unfold sel at g1 g2
      rw [if_neg k1, if_pos k2, if_pos rfl] at g1
      rw [if_neg k1, if_pos k2, if_neg (by simp)] at g2
      rw [if_pos k2, if_pos k2, hc _ (Nat.le_of_lt g1), hc _ (Nat.le_of_lt g2)]
    · rw [if_neg k2, if_neg k2]
theorem app_prune {l : List I} (hr : right l) (ok : ∀ x ∈ l, okI x) (d : List I) (hr' : right (l ++ d)) (ok' : ∀ x ∈ l ++ d, okI x) : pruneL (l ++ d) = pruneL l := by
  rw [prune_step hr' ok', app_round hr ok d, ← prune_step hr ok]
/-- a filter with plain instructions and a return behind it is a filter -/
theorem app_right {l : List I} (hr : right l) (ok : ∀ x ∈ l, okI x) {ds : List I} {e : I} (hd : ∀ x ∈ ds, plain x) (he : kind e.1 = 13 ∨ kind e.1 = 14) (hn : l.length + ds.length + 1 ≤ 4096) : right (l ++ (ds ++ [e])) := by
  obtain ⟨⟨h1, h2⟩, h3, h4, h5⟩ := (right_iff l).1 hr
  have hlen : (l ++ (ds ++ [e])).length = l.length + ds.length + 1 := by simp; omega
  have hx : ∀ x ∈ ds ++ [e], ∀ n i, loc n i x = 0 ∧ rdW x = false := by
    intro x hx n i
    rcases List.mem_append.1 hx with h | h
    · exact ⟨plain_loc (hd x h) n i, plain_rd (hd x h)⟩
    · rw [List.mem_singleton] at h
      subst h
      constructor
      · unfold loc
        rw [if_neg (by omega), if_neg (by omega), if_neg (by omega), if_neg (by omega), if_neg (by omega), if_neg (by omega)]
      · unfold rdW
        rw [Bool.or_eq_false_iff, beq_eq_false_iff_ne, beq_eq_false_iff_ne]; omega
  have hbare : ∀ w j, Bare (l ++ (ds ++ [e])) w j → j < l.length ∧ Bare l w j := by
    intro w j h
    refine Bare.ind (P := fun j => j < l.length ∧ Bare l w j) (fun _ => ⟨h1, Bare.zero h1⟩) (fun i j hi _ ih hw hj _ => ?_) h
    rw [← at0_eq hi, app_at _ ih.1] at hw hj
    have hjl := beh_lt hr ok ih.1 (mem_beh.2 hj)
    exact ⟨hjl, Bare.step ih.1 ih.2 (by rw [← at0_eq ih.1]; exact hw) (by rw [← at0_eq ih.1]; exact hj) hjl⟩
  refine (right_iff _).2 ⟨⟨by omega, by omega⟩, fun i hi => ?_, ?_, fun i hi => ?_⟩
  · unfold wrong
    rw [List.getElem?_eq_getElem hi]
    simp only [bne_eq_false_iff_eq]
    by_cases hil : i < l.length
    · have hw := h3 i hil
      unfold wrong at hw
      rw [List.getElem?_eq_getElem hil] at hw
      simp only [bne_eq_false_iff_eq] at hw
      rw [List.getElem_append_left hil, hlen]
      unfold loc at hw ⊢
      by_cases k0 : kind l[i].1 = 0
      · rw [if_pos k0] at hw; cases hw
      rw [if_neg k0] at hw ⊢
      by_cases k1 : kind l[i].1 = 1
      · rw [if_pos k1] at hw ⊢; exact hw
      rw [if_neg k1] at hw ⊢
      by_cases k4 : kind l[i].1 = 4 ∨ kind l[i].1 = 6 ∨ kind l[i].1 = 8 ∨ kind l[i].1 = 9
      · rw [if_pos k4] at hw ⊢; exact hw
      rw [if_neg k4] at hw ⊢
      by_cases k10 : kind l[i].1 = 10
      · rw [if_pos k10] at hw ⊢; exact hw
      rw [if_neg k10] at hw ⊢
      by_cases k11 : kind l[i].1 = 11
      · rw [if_pos k11] at hw ⊢
        by_cases c : (l.length : Int) ≤ i + 1 + l[i].2.2.2
        · rw [if_pos c] at hw; cases hw
        · rw [if_neg (by omega)]
      rw [if_neg k11] at hw ⊢
      by_cases k12 : kind l[i].1 = 12
      · rw [if_pos k12] at hw ⊢
        by_cases c : (l.length : Int) ≤ i + 1 + l[i].2.1 ∨ (l.length : Int) ≤ i + 1 + l[i].2.2.1
        · rw [if_pos c] at hw; cases hw
        · rw [if_neg (by omega)]
      rw [if_neg k12]
    · have hm : (l ++ (ds ++ [e]))[i] ∈ ds ++ [e] := by
        rw [List.getElem_append_right (by omega)]
        exact List.getElem_mem _
      exact (hx _ hm _ _).1
  · have e1 : (l ++ (ds ++ [e])).getD ((l ++ (ds ++ [e])).length - 1) (0, 0, 0, 0) = e := by
      rw [hlen, List.getD_eq_getElem?_getD, List.getElem?_append_right (by omega), List.getElem?_append_right (by omega)]
      rw [show l.length + ds.length + 1 - 1 - l.length - ds.length = 0 by omega]
      rfl
    rw [e1]
    unfold rets
    rw [Bool.or_eq_true, beq_iff_eq, beq_iff_eq]; exact he
  · unfold raw
    rw [List.getElem?_eq_getElem hi]
    simp only
    by_cases hil : i < l.length
    · have hw := h5 i hil
      unfold raw at hw
      rw [List.getElem?_eq_getElem hil] at hw
      simp only at hw
      rw [List.getElem_append_left hil]
      cases hd2 : rdW l[i] with
      | false => rfl
      | true =>
        rw [hd2, Bool.true_and] at hw
        rw [Bool.true_and]
        cases hb : bare (l ++ (ds ++ [e])) l[i].2.2.2 i with
        | false => rfl
        | true =>
          have := (hbare _ _ hb).2
          unfold Bare at this
          rw [hw] at this; cases this
    · have hm : (l ++ (ds ++ [e]))[i] ∈ ds ++ [e] := by
        rw [List.getElem_append_right (by omega)]
        exact List.getElem_mem _
      rw [(hx _ hm 0 0).2]; rfl
end Go.Proofs.Ytfmlefadifpocaa.M
namespace Go.Proofs.Ytfmlefadifpocaa.M
set_option linter.unusedVariables false
set_option linter.unusedSectionVars false
theorem str_bare {l : List I} (hr : right l) (ok : ∀ x ∈ l, okI x) {w : Int} {j : Nat} (h : Bare (strL l) w j) : Bare l w j := by
  refine Bare.ind (P := fun j => Bare l w j) (fun _ => Bare.zero (len0 hr ok)) (fun i j hi _ ih hw hj _ => ?_) h
  have hil : i < l.length := by rw [strL_len] at hi; exact hi
  rw [← at0_eq hi, strL_at hil] at hw hj
  obtain ⟨hrt, b, rfl⟩ := mem_sel.1 hj
  rw [rets_code (strI_code l i)] at hrt
  rw [wr_code (strI_code l i) (fun h => strI_k h)] at hw
  obtain ⟨k, e⟩ := sel_str (l := l) b i
  rw [e]
  have hnx : sel b i (at0 l i) ∈ nxt i (at0 l i) := mem_sel.2 ⟨hrt, b, rfl⟩
  exact bare_ja hr ok k _ (Bare.step hil ih (by rw [← at0_eq hil]; exact hw) (by rw [← at0_eq hil]; exact hnx) (beh_lt hr ok hil (mem_beh.2 hnx)))
theorem str_right {l : List I} (hr : right l) (ok : ∀ x ∈ l, okI x) : right (strL l) := by
  obtain ⟨⟨h1, h2⟩, h3, h4, h5⟩ := (right_iff l).1 hr
  have hn := strL_len l
  refine (right_iff _).2 ⟨⟨by omega, by omega⟩, fun i hi => ?_, ?_, fun i hi => ?_⟩
  · have hil : i < l.length := by rw [hn] at hi; exact hi
    have hw := h3 i hil
    unfold wrong at hw ⊢
    rw [List.getElem?_eq_getElem hil] at hw
    rw [List.getElem?_eq_getElem hi]
    simp only [bne_eq_false_iff_eq] at hw ⊢
    rw [← at0_eq hil] at hw
    rw [← at0_eq hi]
    have hsel : rets (at0 l i) = false → ∀ b, sel b i (at0 (strL l) i) < l.length := fun hrt b => str_sel hr ok hil hrt b
    obtain ⟨b0, b1, b2, b3⟩ := at0_ok (strL_ok hr ok) i
    have hk : kind (at0 l i).1 ≠ 11 → (at0 (strL l) i).2.2.2 = (at0 l i).2.2.2 := fun h => by rw [strL_at hil, strI_k h]
    unfold loc at hw ⊢
    rw [strL_code, hn]
    by_cases k11 : kind (at0 l i).1 = 11
    · have hs := hsel (ja_rets hr ok (isJa_iff.2 k11)) true
      unfold sel at hs
      rw [strL_code, if_pos k11] at hs
      rw [if_neg (by omega), if_neg (by omega), if_neg (by omega), if_neg (by omega), if_pos k11, if_neg (by omega)]
    · by_cases k12 : kind (at0 l i).1 = 12
      · have hrt : rets (at0 l i) = false := by unfold rets; rw [k12]; rfl
        have hs1 := hsel hrt true
        have hs2 := hsel hrt false
        unfold sel at hs1 hs2
        rw [strL_code, if_neg k11, if_pos k12, if_pos rfl] at hs1
        rw [strL_code, if_neg k11, if_pos k12, if_neg (by simp)] at hs2
        rw [if_neg (by omega), if_neg (by omega), if_neg (by omega), if_neg (by omega), if_neg (by omega), if_pos k12, if_neg (by omega)]
      · rw [hk k11]
        rw [if_neg k11, if_neg k12] at hw ⊢
        exact hw
  · show rets (at0 (strL l) ((strL l).length - 1)) = true
    rw [hn, rets_code (strL_code l _)]
    exact h4
  · have hil : i < l.length := by rw [hn] at hi; exact hi
    have hw := h5 i hil
    unfold raw at hw ⊢
    rw [List.getElem?_eq_getElem hil] at hw
    rw [List.getElem?_eq_getElem hi]
    simp only at hw ⊢
    rw [← at0_eq hil] at hw
    rw [← at0_eq hi]
    have hrd : rdW (at0 (strL l) i) = rdW (at0 l i) := by unfold rdW; rw [strL_code]
    rw [hrd]
    cases hd : rdW (at0 l i) with
    | false => rfl
    | true =>
      rw [hd, Bool.true_and] at hw
      rw [Bool.true_and]
      have k11 : kind (at0 l i).1 ≠ 11 := by
        intro e
        unfold rdW at hd
        rw [e] at hd
        cases hd
      rw [strL_at hil, strI_k k11]
      cases hb : bare (strL l) (at0 l i).2.2.2 i with
      | false => rfl
      | true =>
        have : Bare l (at0 l i).2.2.2 i := str_bare hr ok hb
        unfold Bare at this
        rw [hw] at this
        cases this
/-- the end, of any place -/
def endI (l : List I) (i : Int) : Int := if i < 0 ∨ (l.length : Int) ≤ i then i else (endOf l i.toNat : Nat)
theorem endI_out {l : List I} {i : Int} (h : i < 0 ∨ (l.length : Int) ≤ i) : endI l i = i := if_pos h
theorem endI_at {l : List I} {p : Nat} (h : p < l.length) : endI l p = (endOf l p : Nat) := by
  unfold endI; rw [if_neg (by omega), Int.toNat_natCast]
end Go.Proofs.Ytfmlefadifpocaa.M
