/-
  Trees of terms, as plain mathematics: what a place's tree is; in a row that has each node once no two places have one tree; values, sizes and words of trees.
-/
import Derived.Test.YtkeigicobcjleabT1
namespace Go.Proofs.Ytkeigicobcjleab.TM
set_option linter.unusedVariables false
set_option maxRecDepth 100000
/-- a tree: a number, a word, the other sign, what is reckoned of two -/
abbrev Tr := Int.Internal.Linear.Expr
abbrev op2 (op : Int) (a b : Tr) : Tr := .mulL op (.add a b)
def trN (x : N) (v : Nat → Tr) : Tr :=
  if x.1 = 1 then .num x.2.2.2 else if x.1 = 2 then .var x.2.2.2.toNat else if x.1 = 384 then .neg (v x.2.1.toNat) else op2 (x.1 - 256) (v x.2.1.toNat) (v x.2.2.1.toNat)
theorem trN_num {x : N} (h : x.1 = 1) (v : Nat → Tr) : trN x v = .num x.2.2.2 := by unfold trN; rw [if_pos h]
theorem trN_word {x : N} (h : x.1 = 2) (v : Nat → Tr) : trN x v = .var x.2.2.2.toNat := by unfold trN; rw [if_neg (by omega), if_pos h]
theorem trN_neg {x : N} (h : x.1 = 384) (v : Nat → Tr) : trN x v = .neg (v x.2.1.toNat) := by unfold trN; rw [if_neg (by omega), if_neg (by omega), if_pos h]
theorem trN_two {x : N} (h : isA x.1 = true) (h2 : x.1 ≠ 384) (v : Nat → Tr) : trN x v = op2 (x.1 - 256) (v x.2.1.toNat) (v x.2.2.1.toNat) := by
  have := isA_12 h
  unfold trN; rw [if_neg (by omega), if_neg (by omega), if_neg h2]
theorem parts_neg {x : N} (h : x.1 = 384) : parts x = [x.2.1.toNat] := by unfold parts; rw [if_neg (by omega), if_pos h]
theorem parts_two {x : N} (h : isA x.1 = true) (h2 : x.1 ≠ 384) : parts x = [x.2.1.toNat, x.2.2.1.toNat] := by
  have := isA_12 h
  unfold parts; rw [if_neg (by omega), if_neg h2]
theorem parts_leaf {x : N} (h : x.1 ≤ 2) : parts x = [] := by unfold parts; rw [if_pos h]
theorem trN_congr {x : N} {i : Nat} (hx : may x i = true) {v u : Nat → Tr} (h : ∀ j ∈ parts x, v j = u j) : trN x v = trN x u := by
  rcases may_ok hx with ⟨h1, _⟩ | ⟨h1, _⟩ | ⟨h1, _⟩ | ⟨h1, h2, _⟩
  · rw [trN_num h1, trN_num h1]
  · rw [trN_word h1, trN_word h1]
  · rw [trN_neg h1, trN_neg h1, h _ (by rw [parts_neg h1]; simp)]
  · rw [trN_two h1 h2, trN_two h1 h2, h x.2.1.toNat (by rw [parts_two h1 h2]; simp), h x.2.2.1.toNat (by rw [parts_two h1 h2]; simp)]
/-- the trees of the first places -/
def trsF (l : List N) : Nat → List Tr
  | 0 => []
  | i + 1 => trsF l i ++ [trN (nat0 l i) fun j => (trsF l i).getD j (.num 0)]
def tr (l : List N) (i : Nat) : Tr := (trsF l (i + 1)).getD i (.num 0)
theorem trsF_len (l : List N) (i : Nat) : (trsF l i).length = i := by
  induction i with
  | zero => rfl
  | succ i ih => rw [trsF, List.length_append, ih]; rfl
theorem trsF_get (l : List N) {i j : Nat} (h : j < i) : (trsF l i).getD j (.num 0) = tr l j := by
  induction i with
  | zero => omega
  | succ i ih =>
    by_cases e : j = i
    · subst e; rfl
    · rw [trsF, List.getD_eq_getElem?_getD, List.getElem?_append_left (by rw [trsF_len]; omega), ← List.getD_eq_getElem?_getD]
      exact ih (by omega)
theorem tr_at (l : List N) (i : Nat) : tr l i = trN (nat0 l i) (fun j => (trsF l i).getD j (.num 0)) := by
  unfold tr
  rw [trsF, List.getD_eq_getElem?_getD, List.getElem?_append_right (by rw [trsF_len]; exact Nat.le_refl _), trsF_len]
  simp
theorem tr_row {l : List N} (hl : Row l) {i : Nat} (hi : i < l.length) : tr l i = trN (nat0 l i) (tr l) := by
  rw [tr_at]
  exact trN_congr (hl.2 i hi) fun j hj => trsF_get l (parts_lt (hl.2 i hi) hj)
theorem trsF_keep {l m : List N} : ∀ i, (∀ j, j < i → nat0 l j = nat0 m j) → trsF l i = trsF m i := by
  intro i
  induction i with
  | zero => intro _; rfl
  | succ i ih =>
    intro h
    rw [trsF, trsF, ih (fun j hj => h j (by omega)), h i (by omega)]
theorem tr_keep {l m : List N} {i : Nat} (h : ∀ j, j ≤ i → nat0 l j = nat0 m j) : tr l i = tr m i := by
  unfold tr
  rw [trsF_keep (i + 1) fun j hj => h j (by omega)]
theorem tr_append {l m : List N} {i : Nat} (h : i < l.length) : tr (l ++ m) i = tr l i := tr_keep fun j hj => nat0_append (by omega)
theorem toNat_inj {a b : Int} (ha : 0 ≤ a) (hb : 0 ≤ b) (h : a.toNat = b.toNat) : a = b := by omega
/-- in a row that has each node once no two places have one tree -/
theorem tr_inj {l : List N} (hl : Row l) (ok : ∀ x ∈ l, okN x) (hO : Once l) : ∀ (i j : Nat), i < l.length → j < l.length → tr l i = tr l j → i = j := by
  intro i
  induction i using Nat.strongRecOn with
  | _ i ih =>
    intro j hi hj h
    rw [tr_row hl hi, tr_row hl hj] at h
    apply hO i j hi hj
    have oi := nat0_ok ok i
    have oj := nat0_ok ok j
    have mi := hl.2 i hi
    have mj := hl.2 j hj
    obtain ⟨_, _, _, ki, _⟩ := oi
    obtain ⟨_, _, _, kj, _⟩ := oj
    have hA : ∀ p q, p ∈ parts (nat0 l i) → q ∈ parts (nat0 l j) → tr l p = tr l q → p = q := fun p q hp hq e =>
      ih p (parts_lt mi hp) q (by have := parts_lt mi hp; omega) (by have := parts_lt mj hq; omega) e
    generalize nat0 l i = x at *
    generalize nat0 l j = y at *
    have key : x.1 = y.1 ∧ x.2.1 = y.2.1 ∧ x.2.2.1 = y.2.2.1 ∧ x.2.2.2 = y.2.2.2 := by
      rcases may_ok mi with ⟨a1, a2, a3⟩ | ⟨a1, a2, a3, a4⟩ | ⟨a1, a2, a3, a4, a5⟩ | ⟨a1, a2, a3, a4, a5, a6, a7⟩
      · rw [trN_num a1] at h
        rcases may_ok mj with ⟨b1, b2, b3⟩ | ⟨b1, b2, b3, b4⟩ | ⟨b1, b2, b3, b4, b5⟩ | ⟨b1, b2, b3, b4, b5, b6, b7⟩
        · rw [trN_num b1] at h
          injection h with h
          exact ⟨by omega, by omega, by omega, h⟩
        · rw [trN_word b1] at h; cases h
        · rw [trN_neg b1] at h; cases h
        · rw [trN_two b1 b2] at h; cases h
      · rw [trN_word a1] at h
        rcases may_ok mj with ⟨b1, b2, b3⟩ | ⟨b1, b2, b3, b4⟩ | ⟨b1, b2, b3, b4, b5⟩ | ⟨b1, b2, b3, b4, b5, b6, b7⟩
        · rw [trN_num b1] at h; cases h
        · rw [trN_word b1] at h
          injection h with h
          exact ⟨by omega, by omega, by omega, toNat_inj ki kj h⟩
        · rw [trN_neg b1] at h; cases h
        · rw [trN_two b1 b2] at h; cases h
      · rw [trN_neg a1] at h
        rcases may_ok mj with ⟨b1, b2, b3⟩ | ⟨b1, b2, b3, b4⟩ | ⟨b1, b2, b3, b4, b5⟩ | ⟨b1, b2, b3, b4, b5, b6, b7⟩
        · rw [trN_num b1] at h; cases h
        · rw [trN_word b1] at h; cases h
        · rw [trN_neg b1] at h
          injection h with h
          have := hA _ _ (by rw [parts_neg a1]; simp) (by rw [parts_neg b1]; simp) h
          exact ⟨by omega, toNat_inj (by omega) (by omega) this, by omega, by omega⟩
        · rw [trN_two b1 b2] at h; cases h
      · rw [trN_two a1 a2] at h
        rcases may_ok mj with ⟨b1, b2, b3⟩ | ⟨b1, b2, b3, b4⟩ | ⟨b1, b2, b3, b4, b5⟩ | ⟨b1, b2, b3, b4, b5, b6, b7⟩
        · rw [trN_num b1] at h; cases h
        · rw [trN_word b1] at h; cases h
        · rw [trN_neg b1] at h; cases h
        · rw [trN_two b1 b2] at h
          injection h with h1 h2
          injection h2 with h2 h3
          have e1 := hA _ _ (by rw [parts_two a1 a2]; simp) (by rw [parts_two b1 b2]; simp) h2
          have e2 := hA _ _ (by rw [parts_two a1 a2]; simp) (by rw [parts_two b1 b2]; simp) h3
          exact ⟨by omega, toNat_inj (by omega) (by omega) e1, toNat_inj (by omega) (by omega) e2, by omega⟩
    obtain ⟨x1, x2, x3, x4⟩ := x
    obtain ⟨y1, y2, y3, y4⟩ := y
    obtain ⟨rfl, rfl, rfl, rfl⟩ := key
    rfl
theorem trN_moved {x : N} {i : Nat} (hx : may x i = true) {c : Nat → Nat} {v u : Nat → Tr} (h : ∀ j ∈ parts x, v (c j) = u j) : trN (moved x c) v = trN x u := by
  rcases may_ok hx with ⟨h1, _⟩ | ⟨h1, _⟩ | ⟨h1, _⟩ | ⟨h1, h2, _⟩
  · have e : moved x c = x := by unfold moved; rw [if_pos (by omega)]
    rw [e, trN_num h1, trN_num h1]
  · have e : moved x c = x := by unfold moved; rw [if_pos (by omega)]
    rw [e, trN_word h1, trN_word h1]
  · have e := h x.2.1.toNat (by rw [parts_neg h1]; simp)
    rw [trN_neg h1, ← e]
    unfold moved
    rw [if_neg (by omega), if_pos h1, trN_neg (x := (x.1, ((c x.2.1.toNat : Nat) : Int), x.2.2.1, x.2.2.2)) h1]
    simp
  · have := isA_12 h1
    have e1 := h x.2.1.toNat (by rw [parts_two h1 h2]; simp)
    have e2 := h x.2.2.1.toNat (by rw [parts_two h1 h2]; simp)
    rw [trN_two h1 h2, ← e1, ← e2]
    unfold moved
    rw [if_neg (by omega), if_neg h2, trN_two (x := (x.1, ((c x.2.1.toNat : Nat) : Int), ((c x.2.2.1.toNat : Nat) : Int), x.2.2.2)) h1 h2]
    simp
/-- put into a pool a term keeps its tree -/
theorem into_tr {P l : List N} (hl : Row l) (ok : ∀ x ∈ l, okN x) (hP : Row P) (hO : Once P) (okP : ∀ x ∈ P, okN x) (hn : P.length + l.length ≤ 65536) {k : Nat} (hk : k ≤ l.length) : ∀ (i : Nat), i < k → tr (pl P l k) (plc P l i) = tr l i := by
  obtain ⟨_, h2, _, _, h5, _⟩ := pl_inv hl ok hP hO okP hn k hk
  intro i
  induction i using Nat.strongRecOn with
  | _ i ih =>
    intro hi
    obtain ⟨g1, g2⟩ := h5 i hi
    rw [tr_row h2 g1, g2, tr_row hl (by omega)]
    exact trN_moved (hl.2 i (by omega)) fun j hj => ih j (parts_lt (hl.2 i (by omega)) hj) (by have := parts_lt (hl.2 i (by omega)) hj; omega)
theorem only_tr {l : List N} (hl : Row l) (R : List Int) : ∀ i, i < l.length → inR l R i = true → tr (onlyL l R) (cnP (inR l R) i) = tr l i := by
  intro i
  induction i using Nat.strongRecOn with
  | _ i ih =>
    intro hi h
    rw [tr_row (only_row hl R) (only_lt l R hi h), tr_row hl hi, only_at l R hi h]
    exact trN_moved (hl.2 i hi) fun j hj => ih j (parts_lt (hl.2 i hi) hj) (by have := parts_lt (hl.2 i hi) hj; omega) (inR_part hl R hi h hj)

/-- what is told of two words: 0 of a division by 0 -/
def told (op a b : Int) : Int := if WM.ok op b = true then WM.val op a b else 0
def valT (r : List Int) : Tr → Int
  | .num k => k
  | .var w => r.getD w 0
  | .neg a => told 128 (valT r a) 0
  | .mulL op (.add a b) => told op (valT r a) (valT r b)
  | _ => 0
theorem told_neg (a : Int) : told 128 a 0 = WM.val 128 a 0 := by unfold told; rw [if_pos (by decide)]
theorem val_tr {l : List N} (hl : Row l) (r : List Int) : ∀ i, i < l.length → val l r i = valT r (tr l i) := by
  intro i
  induction i using Nat.strongRecOn with
  | _ i ih =>
    intro hi
    have hp : ∀ j ∈ parts (nat0 l i), val l r j = valT r (tr l j) := fun j hj => ih j (parts_lt (hl.2 i hi) hj) (by have := parts_lt (hl.2 i hi) hj; omega)
    rw [val_row hl r hi, tr_row hl hi]
    have mi := hl.2 i hi
    generalize nat0 l i = x at *
    rcases may_ok mi with ⟨h1, _⟩ | ⟨h1, _⟩ | ⟨h1, _⟩ | ⟨h1, h2, _⟩
    · rw [trN_num h1, valT]; unfold evalN; rw [if_pos h1]
    · rw [trN_word h1, valT]; unfold evalN; rw [if_neg (by omega), if_pos h1]
    · rw [trN_neg h1, valT, ← hp _ (by rw [parts_neg h1]; simp), told_neg]; unfold evalN; rw [if_neg (by omega), if_neg (by omega), if_pos h1]
    · have := isA_12 h1
      rw [trN_two h1 h2, valT, ← hp x.2.1.toNat (by rw [parts_two h1 h2]; simp), ← hp x.2.2.1.toNat (by rw [parts_two h1 h2]; simp)]
      unfold evalN told; rw [if_neg (by omega), if_neg (by omega), if_neg h2]
/-- how many nodes a tree has -/
def szT : Tr → Nat
  | .neg a => 1 + szT a
  | .mulL _ (.add a b) => 1 + szT a + szT b
  | _ => 1
theorem szT_pos (t : Tr) : 1 ≤ szT t := by unfold szT; split <;> omega
theorem sz_tr {l : List N} (hl : Row l) : ∀ i, i < l.length → sz l i = min (szT (tr l i)) 1125899906842624 := by
  intro i
  induction i using Nat.strongRecOn with
  | _ i ih =>
    intro hi
    have hp : ∀ j ∈ parts (nat0 l i), sz l j = min (szT (tr l j)) 1125899906842624 := fun j hj => ih j (parts_lt (hl.2 i hi) hj) (by have := parts_lt (hl.2 i hi) hj; omega)
    rw [sz_row hl hi, tr_row hl hi]
    have mi := hl.2 i hi
    generalize nat0 l i = x at *
    unfold szN
    rcases may_ok mi with ⟨h1, _⟩ | ⟨h1, _⟩ | ⟨h1, _⟩ | ⟨h1, h2, _⟩
    · rw [trN_num h1, parts_leaf (by omega)]; rfl
    · rw [trN_word h1, parts_leaf (by omega)]; rfl
    · rw [trN_neg h1, szT, parts_neg h1]
      have e := hp x.2.1.toNat (by rw [parts_neg h1]; simp)
      simp only [List.map_cons, List.map_nil, List.sum_cons, List.sum_nil]
      rw [e]
      omega
    · have e1 := hp x.2.1.toNat (by rw [parts_two h1 h2]; simp)
      have e2 := hp x.2.2.1.toNat (by rw [parts_two h1 h2]; simp)
      rw [trN_two h1 h2, szT, parts_two h1 h2]
      simp only [List.map_cons, List.map_nil, List.sum_cons, List.sum_nil]
      rw [e1, e2]
      omega
/-- which words a tree has -/
def hasW (w : Nat) : Tr → Prop
  | .num _ => False
  | .var u => u = w
  | .neg a => hasW w a
  | .mulL _ (.add a b) => hasW w a ∨ hasW w b
  | _ => False
/-- which trees stand in a tree -/
def subT (s : Tr) : Tr → Prop
  | .num k => s = .num k
  | .var u => s = .var u
  | .neg a => s = .neg a ∨ subT s a
  | .mulL o (.add a b) => s = .mulL o (.add a b) ∨ subT s a ∨ subT s b
  | t => s = t
theorem subT_self (t : Tr) : subT t t := by unfold subT; split <;> simp
/-- what stands in a place's tree are the trees of the places that stand in it -/
theorem sub_tr {l : List N} (hl : Row l) (s : Tr) : ∀ t, t < l.length → (subT s (tr l t) ↔ ∃ i, i < l.length ∧ inT l t i = true ∧ tr l i = s) := by
  intro t
  induction t using Nat.strongRecOn with
  | _ t ih =>
    intro ht
    have hp : ∀ j ∈ parts (nat0 l t), (subT s (tr l j) ↔ ∃ i, i < l.length ∧ inT l j i = true ∧ tr l i = s) := fun j hj => ih j (parts_lt (hl.2 t ht) hj) (by have := parts_lt (hl.2 t ht) hj; omega)
    have down : (∃ i, i < l.length ∧ inT l t i = true ∧ tr l i = s) ↔ (tr l t = s ∨ ∃ p ∈ parts (nat0 l t), ∃ i, i < l.length ∧ inT l p i = true ∧ tr l i = s) := by
      constructor
      · rintro ⟨i, h1, h2, h3⟩
        rcases inT_down hl ht l.length i (by omega) h2 with h4 | ⟨p, hp1, hp2⟩
        · subst h4; exact .inl h3
        · exact .inr ⟨p, hp1, i, h1, hp2, h3⟩
      · rintro (h | ⟨p, hp1, i, h1, h2, h3⟩)
        · exact ⟨t, ht, inT_self l t, h⟩
        · refine ⟨i, h1, ?_, h3⟩
          have hpl : p < l.length := by have := parts_lt (hl.2 t ht) hp1; omega
          have up : ∀ (d i : Nat), l.length ≤ i + d → inT l p i = true → inT l t i = true := by
            intro d
            induction d with
            | zero =>
              intro i hd hi
              rcases inT_iff.1 hi with e | ⟨q, q1, q2, _⟩
              · omega
              · omega
            | succ d ihd =>
              intro i hd hi
              rcases inT_iff.1 hi with e | ⟨q, q1, q2, q3, q4⟩
              · subst e; exact inT_part hl ht (inT_self l t) hp1
              · exact inT_part hl q1 (ihd q (by omega) q3) q4
          exact up l.length i (by omega) h2
    rw [down]
    have mi := hl.2 t ht
    have hroot := tr_row hl ht
    rw [hroot]
    generalize nat0 l t = x at *
    rcases may_ok mi with ⟨h1, _⟩ | ⟨h1, _⟩ | ⟨h1, _⟩ | ⟨h1, h2, _⟩
    · rw [trN_num h1, parts_leaf (by omega), subT]; simp only [List.not_mem_nil, false_and, exists_false, or_false]; exact eq_comm
    · rw [trN_word h1, parts_leaf (by omega), subT]; simp only [List.not_mem_nil, false_and, exists_false, or_false]; exact eq_comm
    · rw [trN_neg h1, subT, parts_neg h1, hp _ (by rw [parts_neg h1]; simp)]
      simp only [List.mem_singleton, exists_eq_left]
      rw [eq_comm]
    · rw [trN_two h1 h2, subT, parts_two h1 h2, hp x.2.1.toNat (by rw [parts_two h1 h2]; simp), hp x.2.2.1.toNat (by rw [parts_two h1 h2]; simp)]
      simp only [List.mem_cons, List.not_mem_nil, or_false, exists_eq_or_imp, exists_eq_left]
      rw [eq_comm]
theorem has_sub (w : Nat) : ∀ t : Tr, hasW w t ↔ subT (.var w) t := by
  intro t
  induction t using hasW.induct with
  | case1 k => rw [hasW, subT]; simp
  | case2 u =>
    rw [hasW, subT]
    constructor
    · intro h; rw [h]
    · intro h; injection h with h; exact h.symm
  | case3 a ih => rw [hasW, subT, ih]; simp
  | case4 o a b ih1 ih2 => rw [hasW, subT, ih1, ih2]; simp
  | case5 t h0 h1 h2 h3 =>
    unfold hasW subT
    split
    · exact absurd rfl (h0 _)
    · exact absurd rfl (h1 _)
    · exact absurd rfl (h2 _)
    · exact absurd rfl (h3 _ _ _)
    · constructor
      · intro h; cases h
      · intro h; subst h; exact absurd rfl (h1 _)
theorem trN_var {x : N} {i : Nat} (hx : may x i = true) (hk : 0 ≤ x.2.2.2) (v : Nat → Tr) (w : Nat) : trN x v = .var w ↔ x.1 = 2 ∧ x.2.2.2.toNat = w := by
  rcases may_ok hx with ⟨h1, _⟩ | ⟨h1, _⟩ | ⟨h1, _⟩ | ⟨h1, h2, _⟩
  · rw [trN_num h1]
    constructor
    · intro h; cases h
    · intro h; omega
  · rw [trN_word h1]
    constructor
    · intro h; injection h with h; exact ⟨h1, h⟩
    · intro h; rw [h.2]
  · rw [trN_neg h1]
    constructor
    · intro h; cases h
    · intro h; omega
  · have := isA_12 h1
    rw [trN_two h1 h2]
    constructor
    · intro h; cases h
    · intro h; omega
/-- the words that a term looks at are its tree's -/
theorem uses_tr {l : List N} (hl : Row l) (ok : ∀ x ∈ l, okN x) {t : Nat} (ht : t < l.length) (w : Nat) : (uses l t).testBit w = true ↔ hasW w (tr l t) := by
  unfold uses
  rw [usesK_bit, has_sub, sub_tr hl _ t ht]
  constructor
  · rintro ⟨j, h1, h2, h3, h4⟩
    exact ⟨j, h1, h2, by rw [tr_row hl h1]; exact (trN_var (hl.2 j h1) (nat0_ok ok j).2.2.2.1 _ w).2 ⟨h3, h4⟩⟩
  · rintro ⟨j, h1, h2, h3⟩
    rw [tr_row hl h1] at h3
    have := (trN_var (hl.2 j h1) (nat0_ok ok j).2.2.2.1 _ w).1 h3
    exact ⟨j, h1, h2, this.1, this.2⟩
theorem pigeon : ∀ (n m : Nat) (f : Nat → Nat), (∀ i, i < n → f i < m) → (∀ i j, i < n → j < n → f i = f j → i = j) → n ≤ m := by
  intro n
  induction n with
  | zero => intro m f _ _; omega
  | succ n ih =>
    intro m f h1 h2
    have hm : f n < m := h1 n (by omega)
    have := ih (m - 1) (fun i => if f i = m - 1 then f n else f i) (fun i hi => by
      have a := h1 i (by omega)
      have b : f i ≠ f n := fun e => by have := h2 i n (by omega) (by omega) e; omega
      show (if f i = m - 1 then f n else f i) < m - 1
      split <;> omega) (fun i j hi hj e => by
      have a : f i ≠ f n := fun e => by have := h2 i n (by omega) (by omega) e; omega
      have b : f j ≠ f n := fun e => by have := h2 j n (by omega) (by omega) e; omega
      have e' : (if f i = m - 1 then f n else f i) = (if f j = m - 1 then f n else f j) := e
      by_cases c1 : f i = m - 1
      · by_cases c2 : f j = m - 1
        · exact h2 i j (by omega) (by omega) (by omega)
        · rw [if_pos c1, if_neg c2] at e'; exact absurd e'.symm b
      · by_cases c2 : f j = m - 1
        · rw [if_neg c1, if_pos c2] at e'; exact absurd e' a
        · rw [if_neg c1, if_neg c2] at e'; exact h2 i j (by omega) (by omega) e')
    omega
/-- two rows that have each node once, all in one root's tree, whose trees are the same: as many nodes -/
theorem len_le {l m : List N} (hl : Row l) (ok : ∀ x ∈ l, okN x) (hO : Once l) (hm : Row m) {a b : Nat} (ha : a < l.length) (hb : b < m.length) (hall : ∀ i, i < l.length → inT l a i = true) (h : tr l a = tr m b) : l.length ≤ m.length := by
  have hf : ∀ i, ∃ j, i < l.length → j < m.length ∧ tr m j = tr l i := fun i => by
    by_cases hi : i < l.length
    · have h1 := (sub_tr hl (tr l i) a ha).2 ⟨i, hi, hall i hi, rfl⟩
      rw [h] at h1
      obtain ⟨j, h2, _, h3⟩ := (sub_tr hm (tr l i) b hb).1 h1
      exact ⟨j, fun _ => ⟨h2, h3⟩⟩
    · exact ⟨0, fun h => absurd h hi⟩
  obtain ⟨f, hf⟩ := Classical.axiomOfChoice hf
  exact pigeon l.length m.length f (fun i hi => (hf i hi).1) fun i j hi hj e => tr_inj hl ok hO i j hi hj (by rw [← (hf i hi).2, ← (hf j hj).2, e])
end Go.Proofs.Ytkeigicobcjleab.TM
