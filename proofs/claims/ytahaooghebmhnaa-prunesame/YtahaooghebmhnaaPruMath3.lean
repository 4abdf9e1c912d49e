/-
  What a round leaves answers alike, and does the same beside jumps, in no more steps.
-/
import Derived.Test.YtahaooghebmhnaaPruMath2
namespace Go.Proofs.Ytahaooghebmhnaa.M
set_option linter.unusedVariables false
set_option linter.unusedSectionVars false

/-- an instruction with the same code, and the same number if it is no Ja, does the same, but for where it goes -/
theorem step_sim {x y : I} (hc : y.1 = x.1) (hk : kind x.1 ≠ 11 → y.2.2.2 = x.2.2.2) (okx : okI x) (oky : okI y) (r : List Int) {st : S} {i q : Nat} (hp : st.pc = i) (h0 : kind x.1 ≠ 0) (he : st.en = false) :
    ((stepI x r st).en = true ∧ stepI y r { st with pc := (q : Int) } = { stepI x r st with pc := (q : Int) }) ∨
    (∃ b, rets x = false ∧ (stepI x r st).en = false ∧ (stepI x r st).pc = (sel b i x : Nat) ∧ stepI y r { st with pc := (q : Int) } = { stepI x r st with pc := ((sel b q y : Nat) : Int) }) := by
  obtain ⟨c, t, f, k⟩ := x
  obtain ⟨c', t', f', k'⟩ := y
  obtain ⟨b0, b1, b2, b3⟩ := okx
  obtain ⟨d0, d1, d2, d3⟩ := oky
  simp only at b0 b1 b2 b3 d0 d1 d2 d3 hc hk h0
  subst hc
  have hle := kind_le c'
  have rF : kind c' ≠ 13 → kind c' ≠ 14 → rets (c', t, f, k) = false := fun h1 h2 => by
    unfold rets
    rw [Bool.or_eq_false_iff, beq_eq_false_iff_ne, beq_eq_false_iff_ne]; exact ⟨h1, h2⟩
  have sO : ∀ (b : Bool) (j : Nat) (u v z : Int), kind c' ≠ 11 → kind c' ≠ 12 → sel b j (c', u, v, z) = j + 1 := fun b j u v z h1 h2 => by
    unfold sel; simp only; rw [if_neg h1, if_neg h2]
  have pcI : st.pc + 1 = ((i + 1 : Nat) : Int) := by rw [hp]; omega
  have pcQ : (q : Int) + 1 = ((q + 1 : Nat) : Int) := by omega
  have cs : kind c' = 1 ∨ kind c' = 2 ∨ kind c' = 3 ∨ kind c' = 4 ∨ kind c' = 5 ∨ kind c' = 6 ∨ kind c' = 7 ∨ kind c' = 8 ∨ kind c' = 9 ∨ kind c' = 10 ∨ kind c' = 11 ∨ kind c' = 12 ∨ kind c' = 13 ∨ kind c' = 14 ∨ kind c' = 15 ∨ kind c' = 16 := by omega
  rcases cs with h | h | h | h | h | h | h | h | h | h | h | h | h | h | h | h
  · obtain rfl := hk (by omega)
    right; refine ⟨true, rF (by omega) (by omega), ?_, ?_, ?_⟩
    · rw [st1 h]; exact he
    · rw [st1 h, sO _ _ _ _ _ (by omega) (by omega)]; exact pcI
    · rw [st1 h, st1 h, sO _ _ _ _ _ (by omega) (by omega), ← pcQ]
  · obtain rfl := hk (by omega)
    right; refine ⟨true, rF (by omega) (by omega), ?_, ?_, ?_⟩
    · rw [st2 h]; exact he
    · rw [st2 h, sO _ _ _ _ _ (by omega) (by omega)]; exact pcI
    · rw [st2 h, st2 h, sO _ _ _ _ _ (by omega) (by omega), ← pcQ]
  · obtain rfl := hk (by omega)
    right; refine ⟨true, rF (by omega) (by omega), ?_, ?_, ?_⟩
    · rw [st3 h]; exact he
    · rw [st3 h, sO _ _ _ _ _ (by omega) (by omega)]; exact pcI
    · rw [st3 h, st3 h, sO _ _ _ _ _ (by omega) (by omega), ← pcQ]
  · obtain rfl := hk (by omega)
    right; refine ⟨true, rF (by omega) (by omega), ?_, ?_, ?_⟩
    · rw [st4 h]; exact he
    · rw [st4 h, sO _ _ _ _ _ (by omega) (by omega)]; exact pcI
    · rw [st4 h, st4 h, sO _ _ _ _ _ (by omega) (by omega), ← pcQ]
  · obtain rfl := hk (by omega)
    right; refine ⟨true, rF (by omega) (by omega), ?_, ?_, ?_⟩
    · rw [st5 h]; exact he
    · rw [st5 h, sO _ _ _ _ _ (by omega) (by omega)]; exact pcI
    · rw [st5 h, st5 h, sO _ _ _ _ _ (by omega) (by omega), ← pcQ]
  · obtain rfl := hk (by omega)
    right; refine ⟨true, rF (by omega) (by omega), ?_, ?_, ?_⟩
    · rw [st6 h]; exact he
    · rw [st6 h, sO _ _ _ _ _ (by omega) (by omega)]; exact pcI
    · rw [st6 h, st6 h, sO _ _ _ _ _ (by omega) (by omega), ← pcQ]
  · obtain rfl := hk (by omega)
    right; refine ⟨true, rF (by omega) (by omega), ?_, ?_, ?_⟩
    · rw [st7 h]; exact he
    · rw [st7 h, sO _ _ _ _ _ (by omega) (by omega)]; exact pcI
    · rw [st7 h, st7 h, sO _ _ _ _ _ (by omega) (by omega), ← pcQ]
  · obtain rfl := hk (by omega)
    right; refine ⟨true, rF (by omega) (by omega), ?_, ?_, ?_⟩
    · rw [st8 h]; exact he
    · rw [st8 h, sO _ _ _ _ _ (by omega) (by omega)]; exact pcI
    · rw [st8 h, st8 h, sO _ _ _ _ _ (by omega) (by omega), ← pcQ]
  · obtain rfl := hk (by omega)
    right; refine ⟨true, rF (by omega) (by omega), ?_, ?_, ?_⟩
    · rw [st9 h]; exact he
    · rw [st9 h, sO _ _ _ _ _ (by omega) (by omega)]; exact pcI
    · rw [st9 h, st9 h, sO _ _ _ _ _ (by omega) (by omega), ← pcQ]
  · obtain rfl := hk (by omega)
    have e1 : opI (c', t', f', k') = opI (c', t, f, k') := rfl
    have e2 : oth (c', t', f', k') { st with pc := (q : Int) } = oth (c', t, f, k') st := rfl
    rw [st10 h, st10 h, e1, e2]
    by_cases ha : WM.ok (opI (c', t, f, k')) (oth (c', t, f, k') st) = true
    · rw [if_pos ha, if_pos ha]
      right; refine ⟨true, rF (by omega) (by omega), he, ?_, ?_⟩
      · rw [sO _ _ _ _ _ (by omega) (by omega)]; exact pcI
      · rw [sO _ _ _ _ _ (by omega) (by omega), ← pcQ]
    · rw [if_neg ha, if_neg ha]
      exact .inl ⟨rfl, rfl⟩
  · right; refine ⟨true, rF (by omega) (by omega), ?_, ?_, ?_⟩
    · rw [st11 h]; exact he
    · rw [st11 h]
      unfold sel; simp only; rw [if_pos h, hp]; omega
    · rw [st11 h, st11 h]
      have e : (q : Int) + 1 + k' = ((sel true q (c', t', f', k') : Nat) : Int) := by unfold sel; simp only; rw [if_pos h]; omega
      rw [← e]
  · obtain rfl := hk (by omega)
    have e1 : opI (c', t', f', k') = opI (c', t, f, k') := rfl
    have e2 : oth (c', t', f', k') { st with pc := (q : Int) } = oth (c', t, f, k') st := rfl
    rw [st12 h, st12 h, e1, e2]
    obtain ⟨b, hb⟩ : ∃ b, WM.ask (opI (c', t, f, k')) st.a (oth (c', t, f, k') st) = b := ⟨_, rfl⟩
    right
    simp only [hb]
    refine ⟨b, rF (by omega) (by omega), he, ?_, ?_⟩
    · unfold sel; simp only; rw [if_neg (show ¬ kind c' = 11 by omega), if_pos h, hp]
      cases b with
      | true => rw [if_pos rfl, if_pos rfl]; omega
      | false => rw [if_neg (by simp), if_neg (by simp)]; omega
    · have e : (q : Int) + 1 + (if b = true then t' else f') = ((sel b q (c', t', f', k') : Nat) : Int) := by
        unfold sel; simp only; rw [if_neg (show ¬ kind c' = 11 by omega), if_pos h]
        cases b with
        | true => rw [if_pos rfl, if_pos rfl]; omega
        | false => rw [if_neg (by simp), if_neg (by simp)]; omega
      rw [← e]
  · obtain rfl := hk (by omega)
    rw [st13 h, st13 h]; exact .inl ⟨rfl, rfl⟩
  · obtain rfl := hk (by omega)
    rw [st14 h, st14 h]; exact .inl ⟨rfl, rfl⟩
  · obtain rfl := hk (by omega)
    right; refine ⟨true, rF (by omega) (by omega), ?_, ?_, ?_⟩
    · rw [st15 h]; exact he
    · rw [st15 h, sO _ _ _ _ _ (by omega) (by omega)]; exact pcI
    · rw [st15 h, st15 h, sO _ _ _ _ _ (by omega) (by omega), ← pcQ]
  · obtain rfl := hk (by omega)
    right; refine ⟨true, rF (by omega) (by omega), ?_, ?_, ?_⟩
    · rw [st16 h]; exact he
    · rw [st16 h, sO _ _ _ _ _ (by omega) (by omega)]; exact pcI
    · rw [st16 h, st16 h, sO _ _ _ _ _ (by omega) (by omega), ← pcQ]

/-- a run from a state on -/
def G (l : List I) (r : List Int) (st : S) : S × List Nat := go l r l.length st
/-- the instructions of a way but for its jumps, without their sides -/
def ev (l : List I) (T : List Nat) : List I := (T.filter fun z => !isJa (at0 l z)).map fun z => ((at0 l z).1, (0 : Int), (0 : Int), (at0 l z).2.2.2)
theorem ev_ja {l : List I} {z : Nat} (h : isJa (at0 l z) = true) (T : List Nat) : ev l (z :: T) = ev l T := by
  unfold ev; rw [List.filter_cons_of_neg (by rw [h]; simp)]
theorem ev_not {l : List I} {z : Nat} (h : isJa (at0 l z) = false) (T : List Nat) : ev l (z :: T) = ((at0 l z).1, (0 : Int), (0 : Int), (at0 l z).2.2.2) :: ev l T := by
  unfold ev; rw [List.filter_cons_of_pos (by rw [h]; rfl)]; rfl
theorem ev_pre {l : List I} : ∀ {P : List Nat}, (∀ z ∈ P, isJa (at0 l z) = true) → ∀ T, ev l (P ++ T) = ev l T := by
  intro P
  induction P with
  | nil => intro _ T; rfl
  | cons z P ih => intro h T; rw [List.cons_append, ev_ja (h z (by simp)), ih (fun a ha => h a (by simp [ha]))]
theorem ev_cons {l p : List I} {z z' : Nat} (hc : (at0 p z').1 = (at0 l z).1) (hk : kind (at0 l z).1 ≠ 11 → (at0 p z').2.2.2 = (at0 l z).2.2.2) {T T' : List Nat} (h : ev p T' = ev l T) : ev p (z' :: T') = ev l (z :: T) := by
  have hj : isJa (at0 p z') = isJa (at0 l z) := by unfold isJa; rw [hc]
  cases e : isJa (at0 l z) with
  | true => rw [ev_ja (by rw [hj]; exact e), ev_ja e, h]
  | false => rw [ev_not (by rw [hj]; exact e), ev_not e, h, hc, hk (isJa_not.1 e)]
theorem set_pc {st : S} {q : Int} (h : st.pc = q) : { st with pc := q } = st := by
  subst h; rfl

theorem kind0 {l : List I} (hr : right l) (ok : ∀ x ∈ l, okI x) {p : Nat} (hp : p < l.length) : kind (at0 l p).1 ≠ 0 := by
  intro h0
  have hw := ((right_iff l).1 hr).2.1 p hp
  unfold wrong at hw
  rw [List.getElem?_eq_getElem hp] at hw
  simp only [bne_eq_false_iff_eq] at hw
  rw [← at0_eq hp] at hw
  unfold loc at hw
  rw [if_pos h0] at hw
  cases hw
theorem go_same {l : List I} (hr : right l) (ok : ∀ x ∈ l, okI x) (r : List Int) : ∀ (d n m : Nat) (st : S) (p : Nat), st.pc = p → p < l.length → l.length ≤ p + d → d ≤ n → d ≤ m → go l r n st = go l r m st := by
  intro d
  induction d with
  | zero => intro n m st p _ h1 h2; omega
  | succ d ih =>
    intro n m st p hp hpl hd hn hm
    obtain ⟨n, rfl⟩ : ∃ a, n = a + 1 := ⟨n - 1, by omega⟩
    obtain ⟨m, rfl⟩ : ∃ a, m = a + 1 := ⟨m - 1, by omega⟩
    cases he : st.en with
    | true => rw [go_ended l r _ he, go_ended l r _ he]
    | false =>
      rw [go_on l r n he hp hpl, go_on l r m he hp hpl]
      rcases step_on hr ok r hp hpl he with ⟨h1, _⟩ | ⟨h1, q, h2, h3, h4⟩
      · rw [go_ended l r n h1, go_ended l r m h1]
      · rw [ih n m _ q h4 h3 (by omega) (by omega) (by omega)]
theorem G_on {l : List I} (hr : right l) (ok : ∀ x ∈ l, okI x) (r : List Int) {st : S} {p : Nat} (he : st.en = false) (hp : st.pc = p) (hpl : p < l.length) : G l r st = ((G l r (stepI (at0 l p) r st)).1, p :: (G l r (stepI (at0 l p) r st)).2) := by
  unfold G
  have e : go l r l.length st = go l r ((l.length - 1) + 1) st := by rw [show l.length - 1 + 1 = l.length by omega]
  rw [e, go_on l r _ he hp hpl, ← at0_eq hpl]
  have e2 : go l r (l.length - 1) (stepI (at0 l p) r st) = go l r l.length (stepI (at0 l p) r st) := by
    rw [at0_eq hpl]
    rcases step_on hr ok r hp hpl he with ⟨h1, _⟩ | ⟨h1, q, h2, h3, h4⟩
    · rw [go_ended l r _ h1, go_ended l r _ h1]
    · exact go_same hr ok r (l.length - q) _ _ _ q h4 h3 (by omega) (by omega) (by omega)
  rw [e2]
theorem ja_run {l : List I} (hr : right l) (ok : ∀ x ∈ l, okI x) (r : List Int) : ∀ (k a : Nat) (st : S), st.pc = a → a < l.length → st.en = false → ∃ P, (∀ z ∈ P, isJa (at0 l z) = true) ∧ G l r st = ((G l r { st with pc := ((jaN l k a : Nat) : Int) }).1, P ++ (G l r { st with pc := ((jaN l k a : Nat) : Int) }).2) := by
  intro k
  induction k with
  | zero =>
    intro a st hp ha he
    refine ⟨[], (fun z hz => by cases hz), ?_⟩
    have e : { st with pc := ((jaN l 0 a : Nat) : Int) } = st := set_pc hp
    rw [e]; rfl
  | succ k ih =>
    intro a st hp ha he
    cases e : isJa (at0 l a) with
    | false =>
      rw [jaN_not e]
      refine ⟨[], (fun z hz => by cases hz), ?_⟩
      rw [set_pc hp]; rfl
    | true =>
      rw [jaN_ja e]
      have hst : stepI (at0 l a) r st = { st with pc := ((tgt l a : Nat) : Int) } := by
        have hok := at0_ok ok a
        have hk := isJa_iff.1 e
        unfold tgt
        generalize at0 l a = x at *
        obtain ⟨c, t, f, k⟩ := x
        obtain ⟨_, _, _, b3⟩ := hok
        simp only at b3 hk
        rw [st11 hk, hp]
        simp only
        congr 1
        omega
      obtain ⟨P, h1, h2⟩ := ih (tgt l a) { st with pc := ((tgt l a : Nat) : Int) } rfl (tgt_lt hr ok e) he
      refine ⟨a :: P, fun z hz => ?_, ?_⟩
      · rcases List.mem_cons.1 hz with rfl | hz
        · exact e
        · exact h1 z hz
      · rw [G_on hr ok r he hp ha, hst, h2]; rfl
theorem sim {l : List I} (hr : right l) (ok : ∀ x ∈ l, okI x) (r : List Int) : ∀ (d i : Nat) (st : S), nd (strL l) i = true → l.length ≤ i + d → st.pc = i → st.en = false →
    (G (roundL l) r { st with pc := ((cnt (strL l) i : Nat) : Int) }).1.an = (G l r st).1.an ∧ ev (roundL l) (G (roundL l) r { st with pc := ((cnt (strL l) i : Nat) : Int) }).2 = ev l (G l r st).2 ∧ (G (roundL l) r { st with pc := ((cnt (strL l) i : Nat) : Int) }).2.length ≤ (G l r st).2.length := by
  intro d
  induction d with
  | zero =>
    intro i st hi hd _ _
    have := nd_lt hi
    rw [strL_len] at this
    omega
  | succ d ih =>
    intro i st hi hd hp he
    have hil := nd_lt hi
    rw [strL_len] at hil
    have hcl := cnt_lt hi
    have ex : at0 (roundL l) (cnt (strL l) i) = rndI (strL l) i := rndL_at hi
    have hcode : (at0 (roundL l) (cnt (strL l) i)).1 = (at0 l i).1 := by rw [ex, rndI_code, strL_code]
    have hk : kind (at0 l i).1 ≠ 11 → (at0 (roundL l) (cnt (strL l) i)).2.2.2 = (at0 l i).2.2.2 := fun h1 => by
      rw [ex, rndI_k (by rw [strL_code]; exact h1), strL_at hil, strI_k h1]
    have hgl := G_on hr ok r he hp hil
    have hgp := G_on (round_right hr ok) (rnd_ok hr ok) r (st := { st with pc := ((cnt (strL l) i : Nat) : Int) }) (p := cnt (strL l) i) he rfl hcl
    rw [hgl, hgp]
    rcases step_sim (y := at0 (roundL l) (cnt (strL l) i)) hcode hk (at0_ok ok i) (at0_ok (rnd_ok hr ok) _) r (q := cnt (strL l) i) hp (kind0 hr ok hil) he with ⟨h1, h2⟩ | ⟨b, h1, h2, h3, h4⟩
    · rw [h2]
      have g1 : G l r (stepI (at0 l i) r st) = (stepI (at0 l i) r st, []) := go_ended _ _ _ h1
      have g2 : G (roundL l) r { stepI (at0 l i) r st with pc := ((cnt (strL l) i : Nat) : Int) } = ({ stepI (at0 l i) r st with pc := ((cnt (strL l) i : Nat) : Int) }, []) := go_ended _ _ _ h1
      rw [g1, g2]
      exact ⟨rfl, ev_cons hcode hk rfl, Nat.le_refl _⟩
    · rw [h4, ex, rnd_sel hi]
      have hrc := str_rch hr ok (nd_iff.1 hi).1 h1 b
      obtain ⟨k1, e1⟩ := sel_str (l := l) b i
      obtain ⟨k2, e2⟩ := nn_ja hr ok hrc
      have hnd := nn_nd hr ok hrc
      have hcn := nn_cnt hr ok hrc
      have hul : sel b i (at0 l i) < l.length := beh_lt hr ok hil (mem_beh.2 (mem_sel.2 ⟨h1, b, rfl⟩))
      obtain ⟨P, hP, hG⟩ := ja_run hr ok r (k1 + k2) (sel b i (at0 l i)) (stepI (at0 l i) r st) h3 hul h2
      have et : jaN l (k1 + k2) (sel b i (at0 l i)) = nn (strL l) (sel b i (at0 (strL l) i)) := by
        rw [e2, strL_at hil, e1, jaN_add]
      rw [et] at hG
      have hgt : i < nn (strL l) (sel b i (at0 (strL l) i)) := by
        rw [e2]
        have := jaN_ge l k2 (sel b i (at0 (strL l) i))
        have := sel_gt b i (at0 (strL l) i)
        omega
      obtain ⟨i1, i2, i3⟩ := ih (nn (strL l) (sel b i (at0 (strL l) i))) { stepI (at0 l i) r st with pc := ((nn (strL l) (sel b i (at0 (strL l) i)) : Nat) : Int) } hnd (by omega) rfl h2
      simp only [hcn] at i1 i2 i3
      rw [hG]
      refine ⟨i1, ev_cons hcode hk ?_, ?_⟩
      · rw [ev_pre hP]; exact i2
      · simp only [List.length_cons, List.length_append]; omega
theorem round_run {l : List I} (hr : right l) (ok : ∀ x ∈ l, okI x) (r : List Int) : (run (roundL l) r).1.an = (run l r).1.an ∧ ev (roundL l) (run (roundL l) r).2 = ev l (run l r).2 ∧ (run (roundL l) r).2.length ≤ (run l r).2.length := by
  have h0 := len0 hr ok
  have hc := str0 hr ok
  obtain ⟨k, e⟩ := nn_ja hr ok hc
  obtain ⟨P, hP, hG⟩ := ja_run hr ok r k 0 s0 rfl h0 rfl
  rw [← e] at hG
  obtain ⟨i1, i2, i3⟩ := sim hr ok r l.length (nn (strL l) 0) { s0 with pc := ((nn (strL l) 0 : Nat) : Int) } (nn_nd hr ok hc) (by omega) rfl rfl
  have hcn := nn_cnt hr ok hc
  have hz : cnt (strL l) 0 = 0 := rfl
  simp only [hcn, hz] at i1 i2 i3
  have es : ({ s0 with pc := ((0 : Nat) : Int) } : S) = s0 := rfl
  rw [es] at i1 i2 i3
  have hl : run l r = G l r s0 := rfl
  have hp : run (roundL l) r = G (roundL l) r s0 := rfl
  rw [hl, hp, hG]
  refine ⟨i1, ?_, ?_⟩
  · rw [ev_pre hP]; exact i2
  · simp only [List.length_append]; omega
end Go.Proofs.Ytahaooghebmhnaa.M
