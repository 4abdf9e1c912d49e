/-
  Plain mathematics of layer 11: nodes as four numbers, which may stand where, values, trees, sizes, pools.
-/
import Derived.Test.YtkeigicobcjleabH5
namespace Go.Proofs.Ytkeigicobcjleab.TM
set_option linter.unusedVariables false
set_option maxRecDepth 100000

/-- a node: what it is (op), what it is made of (a, b), a number (k) -/
abbrev N := Int × Int × Int × Int
def okN (x : N) : Prop := (-9223372036854775808 ≤ x.1 ∧ x.1 < 9223372036854775808) ∧ (-9223372036854775808 ≤ x.2.1 ∧ x.2.1 < 9223372036854775808) ∧ (-9223372036854775808 ≤ x.2.2.1 ∧ x.2.2.1 < 9223372036854775808) ∧ (0 ≤ x.2.2.2 ∧ x.2.2.2 < 4294967296)
def nat0 (l : List N) (i : Nat) : N := l.getD i (0, 0, 0, 0)
theorem nat0_eq {l : List N} {i : Nat} (h : i < l.length) : nat0 l i = l[i] := by
  unfold nat0; rw [List.getD_eq_getElem?_getD, List.getElem?_eq_getElem h, Option.getD_some]
theorem nat0_out {l : List N} {i : Nat} (h : l.length ≤ i) : nat0 l i = (0, 0, 0, 0) := by
  unfold nat0; rw [List.getD_eq_getElem?_getD, List.getElem?_eq_none h]; rfl
/-- what is reckoned -/
def isA (op : Int) : Bool := op == 256 || op == 272 || op == 288 || op == 304 || op == 320 || op == 336 || op == 352 || op == 368 || op == 384 || op == 416
theorem isA_iff {op : Int} : isA op = true ↔ op = 256 ∨ op = 272 ∨ op = 288 ∨ op = 304 ∨ op = 320 ∨ op = 336 ∨ op = 352 ∨ op = 368 ∨ op = 384 ∨ op = 416 := by
  unfold isA
  simp only [Bool.or_eq_true, beq_iff_eq, or_assoc]
/-- may a node stand at a place? -/
def may (x : N) (i : Nat) : Bool :=
  if x.1 = 1 then x.2.1 == 0 && x.2.2.1 == 0
  else if x.1 = 2 then x.2.1 == 0 && x.2.2.1 == 0 && decide (x.2.2.2 ≤ 15)
  else isA x.1 && (x.2.2.2 == 0 && decide (0 ≤ x.2.1) && decide (x.2.1 < i) && (if x.1 = 384 then x.2.2.1 == 0 else decide (0 ≤ x.2.2.1) && decide (x.2.2.1 < i)))
theorem may_num {x : N} {i : Nat} (h : x.1 = 1) : may x i = (x.2.1 == 0 && x.2.2.1 == 0) := by unfold may; rw [if_pos h]
theorem may_word {x : N} {i : Nat} (h : x.1 = 2) : may x i = (x.2.1 == 0 && x.2.2.1 == 0 && decide (x.2.2.2 ≤ 15)) := by
  unfold may; rw [if_neg (by omega), if_pos h]
theorem may_none {x : N} {i : Nat} (h1 : x.1 ≠ 1) (h2 : x.1 ≠ 2) (h : isA x.1 = false) : may x i = false := by
  unfold may; rw [if_neg h1, if_neg h2, h]; rfl
theorem isA_12 {op : Int} (h : isA op = true) : op ≠ 1 ∧ op ≠ 2 ∧ 256 ≤ op ∧ op ≤ 416 := by have := isA_iff.1 h; omega
theorem may_neg {x : N} {i : Nat} (h : x.1 = 384) : may x i = (x.2.2.2 == 0 && decide (0 ≤ x.2.1) && decide (x.2.1 < i) && x.2.2.1 == 0) := by
  unfold may; rw [if_neg (by omega), if_neg (by omega), if_pos h, show isA x.1 = true from by rw [isA_iff]; omega, Bool.true_and]
theorem may_two {x : N} {i : Nat} (h : isA x.1 = true) (hn : x.1 ≠ 384) : may x i = (x.2.2.2 == 0 && decide (0 ≤ x.2.1) && decide (x.2.1 < i) && (decide (0 ≤ x.2.2.1) && decide (x.2.2.1 < i))) := by
  have := isA_12 h
  unfold may; rw [if_neg this.1, if_neg this.2.1, if_neg hn, h, Bool.true_and]
/-- of which places a node is made -/
def parts (x : N) : List Nat := if x.1 ≤ 2 then [] else if x.1 = 384 then [x.2.1.toNat] else [x.2.1.toNat, x.2.2.1.toNat]
/-- the first place whose node may not stand there -/
def bad (l : List N) : Option Nat := (List.range l.length).find? fun i => !may (nat0 l i) i
def chk (l : List N) : Int × Int := if 65536 < l.length then (0, 5) else match bad l with
  | some i => ((i : Int), 3)
  | none => (0, 0)
def rowB (l : List N) : Bool := (chk l).2 == 0
def Row (l : List N) : Prop := l.length ≤ 65536 ∧ ∀ i, i < l.length → may (nat0 l i) i = true
theorem bad_none {l : List N} : bad l = none ↔ ∀ i, i < l.length → may (nat0 l i) i = true := by
  unfold bad
  rw [List.find?_eq_none]
  simp
theorem bad_some {l : List N} {i : Nat} : bad l = some i ↔ i < l.length ∧ may (nat0 l i) i = false ∧ ∀ j, j < i → may (nat0 l j) j = true := by
  unfold bad
  rw [List.find?_range_eq_some]
  simp [and_left_comm]
theorem row_iff {l : List N} : rowB l = true ↔ Row l := by
  unfold rowB chk Row
  by_cases h : 65536 < l.length
  · rw [if_pos h]
    constructor
    · intro h2; simp at h2
    · intro h2; omega
  · rw [if_neg h]
    cases e : bad l with
    | none =>
      have := bad_none.1 e
      simp only [beq_self_eq_true, true_iff]
      exact ⟨by omega, this⟩
    | some i =>
      obtain ⟨h1, h2, _⟩ := bad_some.1 e
      constructor
      · intro h3; simp at h3
      · intro h3; rw [h3.2 i h1] at h2; cases h2
theorem may_ok {x : N} {i : Nat} (h : may x i = true) : (x.1 = 1 ∧ x.2.1 = 0 ∧ x.2.2.1 = 0) ∨ (x.1 = 2 ∧ x.2.1 = 0 ∧ x.2.2.1 = 0 ∧ x.2.2.2 ≤ 15) ∨ (x.1 = 384 ∧ x.2.2.2 = 0 ∧ 0 ≤ x.2.1 ∧ x.2.1 < i ∧ x.2.2.1 = 0) ∨
    (isA x.1 = true ∧ x.1 ≠ 384 ∧ x.2.2.2 = 0 ∧ 0 ≤ x.2.1 ∧ x.2.1 < i ∧ 0 ≤ x.2.2.1 ∧ x.2.2.1 < i) := by
  by_cases h1 : x.1 = 1
  · rw [may_num h1] at h; simp at h; exact .inl ⟨h1, h⟩
  · by_cases h2 : x.1 = 2
    · rw [may_word h2] at h; simp at h; exact .inr (.inl ⟨h2, h.1.1, h.1.2, h.2⟩)
    · cases ha : isA x.1 with
      | false => rw [may_none h1 h2 ha] at h; cases h
      | true =>
        by_cases hn : x.1 = 384
        · rw [may_neg hn] at h; simp at h; exact .inr (.inr (.inl ⟨hn, h.1.1.1, h.1.1.2, h.1.2, h.2⟩))
        · rw [may_two ha hn] at h; simp at h; exact .inr (.inr (.inr ⟨rfl, hn, h.1.1.1, h.1.1.2, h.1.2, h.2.1, h.2.2⟩))
theorem parts_lt {x : N} {i j : Nat} (h : may x i = true) (hj : j ∈ parts x) : j < i := by
  have := may_ok h
  unfold parts at hj
  split at hj
  · cases hj
  · split at hj
    · simp only [List.mem_cons, List.not_mem_nil, or_false] at hj; omega
    · simp only [List.mem_cons, List.not_mem_nil, or_false] at hj
      rcases this with h1 | h1 | h1 | h1 <;> omega

/-- the value of a node, over the values ahead of it -/
def evalN (x : N) (v : Nat → Int) (r : List Int) : Int :=
  if x.1 = 1 then x.2.2.2 else if x.1 = 2 then r.getD x.2.2.2.toNat 0 else if x.1 = 384 then WM.val 128 (v x.2.1.toNat) 0
  else if WM.ok (x.1 - 256) (v x.2.2.1.toNat) = true then WM.val (x.1 - 256) (v x.2.1.toNat) (v x.2.2.1.toNat) else 0
theorem evalN_congr {x : N} {v u : Nat → Int} (r : List Int) (h : ∀ j ∈ parts x, v j = u j) : evalN x v r = evalN x u r := by
  unfold evalN
  by_cases h1 : x.1 = 1
  · rw [if_pos h1, if_pos h1]
  · rw [if_neg h1, if_neg h1]
    by_cases h2 : x.1 = 2
    · rw [if_pos h2, if_pos h2]
    · rw [if_neg h2, if_neg h2]
      by_cases h3 : x.1 = 384
      · rw [if_pos h3, if_pos h3, h _ (by unfold parts; rw [if_neg (by omega), if_pos h3]; simp)]
      · rw [if_neg h3, if_neg h3]
        by_cases h4 : x.1 ≤ 2
        · have e : WM.ok (x.1 - 256) (v x.2.2.1.toNat) = false ∧ WM.ok (x.1 - 256) (u x.2.2.1.toNat) = false := by
            unfold WM.ok
            constructor <;> simp <;> omega
          rw [e.1, e.2]; rfl
        · have ha := h x.2.1.toNat (by unfold parts; rw [if_neg h4, if_neg h3]; simp)
          have hb := h x.2.2.1.toNat (by unfold parts; rw [if_neg h4, if_neg h3]; simp)
          rw [ha, hb]
/-- the values of the first places -/
def valsF (l : List N) (r : List Int) : Nat → List Int
  | 0 => []
  | i + 1 => valsF l r i ++ [evalN (nat0 l i) (fun j => (valsF l r i).getD j 0) r]
def val (l : List N) (r : List Int) (i : Nat) : Int := (valsF l r (i + 1)).getD i 0
def vals (l : List N) (r : List Int) : List Int := valsF l r l.length
theorem valsF_len (l : List N) (r : List Int) (i : Nat) : (valsF l r i).length = i := by
  induction i with
  | zero => rfl
  | succ i ih => rw [valsF, List.length_append, ih]; rfl
theorem valsF_get (l : List N) (r : List Int) {i j : Nat} (h : j < i) : (valsF l r i).getD j 0 = val l r j := by
  induction i with
  | zero => omega
  | succ i ih =>
    by_cases e : j = i
    · subst e; rfl
    · rw [valsF, List.getD_eq_getElem?_getD, List.getElem?_append_left (by rw [valsF_len]; omega), ← List.getD_eq_getElem?_getD]
      exact ih (by omega)
theorem val_at (l : List N) (r : List Int) (i : Nat) : val l r i = evalN (nat0 l i) (fun j => (valsF l r i).getD j 0) r := by
  unfold val
  rw [valsF, List.getD_eq_getElem?_getD, List.getElem?_append_right (by rw [valsF_len]; exact Nat.le_refl _), valsF_len]
  simp
theorem val_row {l : List N} (hl : Row l) (r : List Int) {i : Nat} (hi : i < l.length) : val l r i = evalN (nat0 l i) (val l r) r := by
  rw [val_at]
  exact evalN_congr r fun j hj => valsF_get l r (parts_lt (hl.2 i hi) hj)
theorem nat0_ok {l : List N} (ok : ∀ x ∈ l, okN x) (i : Nat) : okN (nat0 l i) := by
  by_cases h : i < l.length
  · rw [nat0_eq h]; exact ok _ (List.getElem_mem h)
  · rw [nat0_out (by omega)]; unfold okN; decide

/-- of a tree: does the place i stand in the tree of t? -/
def inF (l : List N) (t : Nat) : Nat → Nat → Bool
  | 0, i => decide (i = t)
  | n + 1, i => decide (i = t) || (List.range l.length).any fun q => decide (i < q) && inF l t n q && (parts (nat0 l q)).contains i
theorem any_ext {α : Type} {f g : α → Bool} : ∀ {l : List α}, (∀ x ∈ l, f x = g x) → l.any f = l.any g := by
  intro l
  induction l with
  | nil => intro _; rfl
  | cons a l ih => intro h; rw [List.any_cons, List.any_cons, h a (by simp), ih (fun x hx => h x (by simp [hx]))]
theorem inF_same (l : List N) (t : Nat) : ∀ (d i n m : Nat), l.length ≤ i + d → d ≤ n → d ≤ m → inF l t n i = inF l t m i := by
  intro d
  induction d with
  | zero =>
    intro i n m h _ _
    have e : ∀ n, inF l t n i = decide (i = t) := fun n => by
      cases n with
      | zero => rfl
      | succ n =>
        rw [inF]
        have : ((List.range l.length).any fun q => decide (i < q) && inF l t n q && (parts (nat0 l q)).contains i) = false := by
          rw [List.any_eq_false]
          intro q hq
          rw [List.mem_range] at hq
          rw [decide_eq_false (by omega)]; simp
        rw [this, Bool.or_false]
    rw [e, e]
  | succ d ih =>
    intro i n m h hn hm
    obtain ⟨n, rfl⟩ : ∃ a, n = a + 1 := ⟨n - 1, by omega⟩
    obtain ⟨m, rfl⟩ : ∃ a, m = a + 1 := ⟨m - 1, by omega⟩
    rw [inF, inF]
    congr 1
    refine any_ext fun q _ => ?_
    by_cases e : i < q
    · rw [ih q n m (by omega) (by omega) (by omega)]
    · rw [decide_eq_false e]; rfl
def inT (l : List N) (t i : Nat) : Bool := inF l t (l.length - i) i
theorem inT_eq (l : List N) (t i : Nat) : inT l t i = (decide (i = t) || (List.range l.length).any fun q => decide (i < q) && inT l t q && (parts (nat0 l q)).contains i) := by
  unfold inT
  rw [inF_same l t (l.length - i) i (l.length - i) (l.length - i + 1) (by omega) (Nat.le_refl _) (by omega), inF]
  congr 1
  refine any_ext fun q hq => ?_
  rw [List.mem_range] at hq
  by_cases e : i < q
  · rw [inF_same l t (l.length - q) q (l.length - i) (l.length - q) (by omega) (by omega) (Nat.le_refl _)]
  · rw [decide_eq_false e]; rfl
theorem inT_iff {l : List N} {t i : Nat} : inT l t i = true ↔ i = t ∨ ∃ q, q < l.length ∧ i < q ∧ inT l t q = true ∧ i ∈ parts (nat0 l q) := by
  rw [inT_eq, Bool.or_eq_true, decide_eq_true_eq, List.any_eq_true]
  refine or_congr_right ?_
  constructor
  · rintro ⟨q, h1, h2⟩
    rw [Bool.and_eq_true, Bool.and_eq_true, decide_eq_true_eq, List.contains_iff_mem] at h2
    exact ⟨q, List.mem_range.1 h1, h2.1.1, h2.1.2, h2.2⟩
  · rintro ⟨q, h1, h2, h3, h4⟩
    exact ⟨q, List.mem_range.2 h1, by rw [Bool.and_eq_true, Bool.and_eq_true, decide_eq_true_eq, List.contains_iff_mem]; exact ⟨⟨h2, h3⟩, h4⟩⟩
theorem inT_self (l : List N) (t : Nat) : inT l t t = true := inT_iff.2 (.inl rfl)
theorem inT_part {l : List N} (hl : Row l) {t q i : Nat} (hq : q < l.length) (h : inT l t q = true) (hi : i ∈ parts (nat0 l q)) : inT l t i = true :=
  inT_iff.2 (.inr ⟨q, hq, parts_lt (hl.2 q hq) hi, h, hi⟩)
theorem inT_le {l : List N} {t : Nat} (ht : t < l.length) : ∀ (d i : Nat), l.length ≤ i + d → inT l t i = true → i ≤ t := by
  intro d
  induction d with
  | zero =>
    intro i h hi
    rcases inT_iff.1 hi with h1 | ⟨q, h1, h2, _⟩ <;> omega
  | succ d ih =>
    intro i h hi
    rcases inT_iff.1 hi with h1 | ⟨q, h1, h2, h3, _⟩
    · omega
    · have := ih q (by omega) h3; omega
/-- a tree is its node, and the trees of its parts -/
theorem inT_down {l : List N} (hl : Row l) {t : Nat} (ht : t < l.length) : ∀ (d i : Nat), l.length ≤ i + d → inT l t i = true → i = t ∨ ∃ p ∈ parts (nat0 l t), inT l p i = true := by
  intro d
  induction d with
  | zero =>
    intro i h hi
    rcases inT_iff.1 hi with h1 | ⟨q, h1, h2, _⟩
    · exact .inl h1
    · omega
  | succ d ih =>
    intro i h hi
    rcases inT_iff.1 hi with h1 | ⟨q, h1, h2, h3, h4⟩
    · exact .inl h1
    · rcases ih q (by omega) h3 with h5 | ⟨p, hp, h5⟩
      · subst h5; exact .inr ⟨i, h4, inT_self l i⟩
      · exact .inr ⟨p, hp, inT_part hl h1 h5 h4⟩
/-- a value hangs on the words of its tree alone -/
theorem val_same {l : List N} (hl : Row l) {t : Nat} {r s : List Int} (h : ∀ i, i < l.length → inT l t i = true → (nat0 l i).1 = 2 → r.getD (nat0 l i).2.2.2.toNat 0 = s.getD (nat0 l i).2.2.2.toNat 0) :
    ∀ (i : Nat), i < l.length → inT l t i = true → val l r i = val l s i := by
  intro i
  induction i using Nat.strongRecOn with
  | _ i ih =>
    intro hi hin
    rw [val_row hl r hi, val_row hl s hi]
    have e : evalN (nat0 l i) (val l r) r = evalN (nat0 l i) (val l s) r := evalN_congr r fun j hj => ih j (parts_lt (hl.2 i hi) hj) (by have := parts_lt (hl.2 i hi) hj; omega) (inT_part hl hi hin hj)
    rw [e]
    unfold evalN
    by_cases h2 : (nat0 l i).1 = 2
    · have n1 : ¬ (nat0 l i).1 = 1 := by omega
      rw [if_neg n1, if_neg n1, if_pos h2, if_pos h2, h i hi hin h2]
    · by_cases h1 : (nat0 l i).1 = 1
      · rw [if_pos h1, if_pos h1]
      · rw [if_neg h1, if_neg h1, if_neg h2, if_neg h2]

/-- the words that a tree looks at, as bits, of the first places -/
def usesK (l : List N) (t : Nat) : Nat → Nat
  | 0 => 0
  | i + 1 => if inT l t i = true ∧ (nat0 l i).1 = 2 then usesK l t i ||| 2 ^ (nat0 l i).2.2.2.toNat else usesK l t i
def uses (l : List N) (t : Nat) : Nat := usesK l t l.length
theorem usesK_bit (l : List N) (t w : Nat) : ∀ i, (usesK l t i).testBit w = true ↔ ∃ j, j < i ∧ inT l t j = true ∧ (nat0 l j).1 = 2 ∧ (nat0 l j).2.2.2.toNat = w := by
  intro i
  induction i with
  | zero => simp [usesK]
  | succ i ih =>
    rw [usesK]
    split
    · rename_i h
      rw [Nat.testBit_or, Bool.or_eq_true, ih, Nat.testBit_two_pow, decide_eq_true_eq]
      constructor
      · rintro (⟨j, h1, h2⟩ | h1)
        · exact ⟨j, by omega, h2⟩
        · exact ⟨i, by omega, h.1, h.2, h1⟩
      · rintro ⟨j, h1, h2, h3, h4⟩
        by_cases e : j = i
        · subst e; exact .inr h4
        · exact .inl ⟨j, by omega, h2, h3, h4⟩
    · rename_i h
      rw [ih]
      constructor
      · rintro ⟨j, h1, h2⟩; exact ⟨j, by omega, h2⟩
      · rintro ⟨j, h1, h2, h3, h4⟩
        by_cases e : j = i
        · subst e; exact absurd ⟨h2, h3⟩ h
        · exact ⟨j, by omega, h2, h3, h4⟩
theorem word_lt {l : List N} (hl : Row l) {i : Nat} (hi : i < l.length) (h : (nat0 l i).1 = 2) : (nat0 l i).2.2.2 ≤ 15 := by
  have := may_ok (hl.2 i hi)
  omega
theorem usesK_lt {l : List N} (hl : Row l) (t : Nat) : ∀ i, i ≤ l.length → usesK l t i < 65536 := by
  intro i
  induction i with
  | zero => intro _; rw [usesK]; omega
  | succ i ih =>
    intro hi
    rw [usesK]
    split
    · rename_i h
      have := word_lt hl (by omega) h.2
      have h2 : 2 ^ (nat0 l i).2.2.2.toNat < 2 ^ 16 := Nat.pow_lt_pow_right (by omega) (by omega)
      exact Nat.or_lt_two_pow (n := 16) (ih (by omega)) h2
    · exact ih (by omega)

/-- sizes of the first places -/
def szN (x : N) (v : Nat → Nat) : Nat := min (1 + ((parts x).map v).sum) 1125899906842624
def szF (l : List N) : Nat → List Nat
  | 0 => []
  | i + 1 => szF l i ++ [szN (nat0 l i) fun j => (szF l i).getD j 0]
def sz (l : List N) (i : Nat) : Nat := (szF l (i + 1)).getD i 0
theorem szF_len (l : List N) (i : Nat) : (szF l i).length = i := by
  induction i with
  | zero => rfl
  | succ i ih => rw [szF, List.length_append, ih]; rfl
theorem szF_get (l : List N) {i j : Nat} (h : j < i) : (szF l i).getD j 0 = sz l j := by
  induction i with
  | zero => omega
  | succ i ih =>
    by_cases e : j = i
    · subst e; rfl
    · rw [szF, List.getD_eq_getElem?_getD, List.getElem?_append_left (by rw [szF_len]; omega), ← List.getD_eq_getElem?_getD]
      exact ih (by omega)
theorem szN_congr {x : N} {v u : Nat → Nat} (h : ∀ j ∈ parts x, v j = u j) : szN x v = szN x u := by
  unfold szN
  rw [List.map_congr_left h]
theorem sz_row {l : List N} (hl : Row l) {i : Nat} (hi : i < l.length) : sz l i = szN (nat0 l i) (sz l) := by
  have e : sz l i = szN (nat0 l i) (fun j => (szF l i).getD j 0) := by
    unfold sz
    rw [szF, List.getD_eq_getElem?_getD, List.getElem?_append_right (by rw [szF_len]; exact Nat.le_refl _), szF_len]
    simp
  rw [e]
  exact szN_congr fun j hj => szF_get l (parts_lt (hl.2 i hi) hj)
theorem sz_le (l : List N) (i : Nat) (hl : Row l) (hi : i < l.length) : sz l i ≤ 1125899906842624 := by
  rw [sz_row hl hi]; unfold szN; exact Nat.min_le_right _ _
/-- how many places stand in a tree -/
def cnI (l : List N) (t k : Nat) : Nat := ((List.range k).filter fun i => inT l t i).length
theorem cnI_succ (l : List N) (t k : Nat) : cnI l t (k + 1) = cnI l t k + (if inT l t k = true then 1 else 0) := by
  unfold cnI
  rw [List.range_succ, List.filter_append, List.length_append]
  congr 1
  simp only [List.filter_cons, List.filter_nil]
  split <;> simp
theorem cnI_le (l : List N) (t k : Nat) : cnI l t k ≤ k := by
  unfold cnI
  exact Nat.le_trans (List.length_filter_le _ _) (by simp)
theorem le_sum : ∀ {l : List Nat} {x : Nat}, x ∈ l → x ≤ l.sum := by
  intro l
  induction l with
  | nil => intro x h; cases h
  | cons a t ih =>
    intro x h
    rw [List.sum_cons]
    rcases List.mem_cons.1 h with h | h
    · omega
    · have := ih h; omega
theorem cnI_down {l : List N} (hl : Row l) {t : Nat} (ht : t < l.length) : ∀ k, cnI l t k ≤ (if t < k then 1 else 0) + ((parts (nat0 l t)).map fun p => cnI l p k).sum := by
  intro k
  induction k with
  | zero => simp [cnI]
  | succ k ih =>
    rw [cnI_succ]
    have e : ∀ (ps : List Nat), (ps.map fun p => cnI l p (k + 1)).sum = (ps.map fun p => cnI l p k).sum + (ps.map fun p => if inT l p k = true then 1 else 0).sum := by
      intro ps
      induction ps with
      | nil => rfl
      | cons a t ih2 =>
        simp only [List.map_cons, List.sum_cons]
        rw [ih2, cnI_succ]
        generalize (if inT l a k = true then 1 else 0) = z
        omega
    rw [e]
    by_cases hk : inT l t k = true
    · rw [if_pos hk]
      rcases inT_down hl ht (l.length - k) k (by omega) hk with h | ⟨p, hp, h⟩
      · subst h; rw [if_pos (by omega)]; rw [if_neg (by omega)] at ih; omega
      · have : 1 ≤ ((parts (nat0 l t)).map fun p => if inT l p k = true then 1 else 0).sum := by
          have hm : (1 : Nat) ∈ ((parts (nat0 l t)).map fun p => if inT l p k = true then 1 else 0) := List.mem_map.2 ⟨p, hp, if_pos h⟩
          exact le_sum hm
        split at ih <;> split <;> omega
    · rw [if_neg hk]; split at ih <;> split <;> omega
theorem cnI_sz {l : List N} (hl : Row l) : ∀ t, t < l.length → cnI l t l.length ≤ sz l t := by
  intro t
  induction t using Nat.strongRecOn with
  | _ t ih =>
    intro ht
    rw [sz_row hl ht]
    unfold szN
    have h1 := cnI_down hl ht l.length
    rw [if_pos ht] at h1
    have h2 := cnI_le l t l.length
    have h3 := hl.1
    have h4 : ∀ (ps : List Nat), (∀ p ∈ ps, p < t) → (ps.map fun p => cnI l p l.length).sum ≤ (ps.map (sz l)).sum := by
      intro ps
      induction ps with
      | nil => intro _; exact Nat.le_refl _
      | cons a u ih2 =>
        intro hp
        simp only [List.map_cons, List.sum_cons]
        have g1 := ih a (hp a (by simp)) (by have := hp a (by simp); omega)
        have g2 := ih2 (fun p h => hp p (by simp [h]))
        omega
    have h5 := h4 (parts (nat0 l t)) (fun p hp => parts_lt (hl.2 t ht) hp)
    omega
end Go.Proofs.Ytkeigicobcjleab.TM
namespace Go.Proofs.Ytkeigicobcjleab.TM
set_option linter.unusedVariables false
set_option maxRecDepth 100000
/-- the first place of a node -/
def fnd (l : List N) (x : N) : Option Nat := (List.range l.length).find? fun i => decide (nat0 l i = x)
theorem fnd_none {l : List N} {x : N} : fnd l x = none ↔ ∀ i, i < l.length → nat0 l i ≠ x := by
  unfold fnd
  rw [List.find?_eq_none]
  simp
theorem fnd_some {l : List N} {x : N} {i : Nat} : fnd l x = some i ↔ i < l.length ∧ nat0 l i = x ∧ ∀ j, j < i → nat0 l j ≠ x := by
  unfold fnd
  rw [List.find?_range_eq_some]
  simp [and_left_comm]
def putN (l : List N) (x : N) : List N × Nat := match fnd l x with
  | some i => (l, i)
  | none => (l ++ [x], l.length)
theorem putN_old {l : List N} {x : N} {i : Nat} (h : fnd l x = some i) : putN l x = (l, i) := by unfold putN; rw [h]
theorem putN_new {l : List N} {x : N} (h : fnd l x = none) : putN l x = (l ++ [x], l.length) := by unfold putN; rw [h]
theorem nat0_append {l m : List N} {i : Nat} (h : i < l.length) : nat0 (l ++ m) i = nat0 l i := by
  unfold nat0
  rw [List.getD_eq_getElem?_getD, List.getD_eq_getElem?_getD, List.getElem?_append_left h]
theorem nat0_last (l : List N) (x : N) : nat0 (l ++ [x]) l.length = x := by
  unfold nat0
  rw [List.getD_eq_getElem?_getD, List.getElem?_append_right (Nat.le_refl _)]
  simp
/-- each node once -/
def Once (l : List N) : Prop := ∀ i j, i < l.length → j < l.length → nat0 l i = nat0 l j → i = j
theorem putN_len (l : List N) (x : N) : l.length ≤ (putN l x).1.length ∧ (putN l x).1.length ≤ l.length + 1 := by
  cases h : fnd l x with
  | none => rw [putN_new h]; simp
  | some i => rw [putN_old h]; simp
theorem putN_at (l : List N) (x : N) : (putN l x).2 < (putN l x).1.length ∧ nat0 (putN l x).1 (putN l x).2 = x := by
  cases h : fnd l x with
  | none => rw [putN_new h]; exact ⟨by simp, nat0_last l x⟩
  | some i => rw [putN_old h]; have := fnd_some.1 h; exact ⟨this.1, this.2.1⟩
theorem putN_keep (l : List N) (x : N) {i : Nat} (h : i < l.length) : nat0 (putN l x).1 i = nat0 l i := by
  cases e : fnd l x with
  | none => rw [putN_new e]; exact nat0_append h
  | some i => rw [putN_old e]
theorem putN_once {l : List N} (h : Once l) (x : N) : Once (putN l x).1 := by
  cases e : fnd l x with
  | some i => rw [putN_old e]; exact h
  | none =>
    rw [putN_new e]
    have hn := fnd_none.1 e
    intro i j hi hj hij
    simp only [List.length_append, List.length_cons, List.length_nil] at hi hj
    by_cases h1 : i < l.length
    · by_cases h2 : j < l.length
      · rw [nat0_append h1, nat0_append h2] at hij; exact h i j h1 h2 hij
      · obtain rfl : j = l.length := by omega
        rw [nat0_append h1, nat0_last] at hij
        exact absurd hij (hn i h1)
    · obtain rfl : i = l.length := by omega
      by_cases h2 : j < l.length
      · rw [nat0_append h2, nat0_last] at hij
        exact absurd hij.symm (hn j h2)
      · omega
theorem putN_ok {l : List N} (h : ∀ x ∈ l, okN x) {x : N} (hx : okN x) : ∀ y ∈ (putN l x).1, okN y := by
  cases e : fnd l x with
  | some i => rw [putN_old e]; exact h
  | none =>
    rw [putN_new e]
    intro y hy
    rcases List.mem_append.1 hy with hy | hy
    · exact h y hy
    · rw [List.mem_singleton] at hy; subst hy; exact hx
theorem nat0_inj {l m : List N} (hl : l.length = m.length) (h : ∀ i, i < l.length → nat0 l i = nat0 m i) : l = m := by
  apply List.ext_getElem hl
  intro i h1 h2
  have := h i h1
  rwa [nat0_eq h1, nat0_eq h2] at this
theorem may_up {x : N} {i j : Nat} (hij : i ≤ j) (h : may x i = true) : may x j = true := by
  rcases may_ok h with ⟨h1, h2, h3⟩ | ⟨h1, h2, h3, h4⟩ | ⟨h1, h2, h3, h4, h5⟩ | ⟨h1, h2, h3, h4, h5, h6, h7⟩
  · rw [may_num h1]; simp [h2, h3]
  · rw [may_word h1]; simp [h2, h3, h4]
  · rw [may_neg h1]; simp [h2, h3, h5]; omega
  · rw [may_two h1 h2]; simp [h3, h4, h6]; omega
theorem putN_row {l : List N} (h : Row l) {x : N} (hx : may x l.length = true) (h2 : l.length < 65536) : Row (putN l x).1 := by
  cases e : fnd l x with
  | some i => rw [putN_old e]; exact h
  | none =>
    rw [putN_new e]
    refine ⟨by simp; omega, fun i hi => ?_⟩
    simp only [List.length_append, List.length_cons, List.length_nil] at hi
    by_cases h1 : i < l.length
    · rw [nat0_append h1]; exact h.2 i h1
    · obtain rfl : i = l.length := by omega
      rw [nat0_last]; exact hx

/-- a node whose parts stand elsewhere -/
def moved (x : N) (v : Nat → Nat) : N := if x.1 ≤ 2 then x else if x.1 = 384 then (x.1, (v x.2.1.toNat : Nat), x.2.2.1, x.2.2.2) else (x.1, (v x.2.1.toNat : Nat), (v x.2.2.1.toNat : Nat), x.2.2.2)
theorem moved_congr {x : N} {v u : Nat → Nat} (h : ∀ j ∈ parts x, v j = u j) : moved x v = moved x u := by
  unfold moved
  by_cases h1 : x.1 ≤ 2
  · rw [if_pos h1, if_pos h1]
  · rw [if_neg h1, if_neg h1]
    by_cases h2 : x.1 = 384
    · rw [if_pos h2, if_pos h2, h _ (by unfold parts; rw [if_neg h1, if_pos h2]; simp)]
    · rw [if_neg h2, if_neg h2, h _ (by unfold parts; rw [if_neg h1, if_neg h2]; simp), h x.2.2.1.toNat (by unfold parts; rw [if_neg h1, if_neg h2]; simp)]
theorem moved_may {x : N} {i m : Nat} {v : Nat → Nat} (h : may x i = true) (hv : ∀ j ∈ parts x, v j < m) : may (moved x v) m = true := by
  have hp : ∀ j ∈ parts x, v j < m := hv
  rcases may_ok h with ⟨h1, h2, h3⟩ | ⟨h1, h2, h3, h4⟩ | ⟨h1, h2, h3, h4, h5⟩ | ⟨h1, h2, h3, h4, h5, h6, h7⟩
  · unfold moved; rw [if_pos (by omega), may_num h1]; simp [h2, h3]
  · unfold moved; rw [if_pos (by omega), may_word h1]; simp [h2, h3, h4]
  · have e := hp x.2.1.toNat (by unfold parts; rw [if_neg (by omega), if_pos h1]; simp)
    unfold moved; rw [if_neg (by omega), if_pos h1, may_neg (x := (x.1, ((v x.2.1.toNat : Nat) : Int), x.2.2.1, x.2.2.2)) h1]; simp [h2, h5]; omega
  · have := isA_12 h1
    have e1 := hp x.2.1.toNat (by unfold parts; rw [if_neg (by omega), if_neg h2]; simp)
    have e2 := hp x.2.2.1.toNat (by unfold parts; rw [if_neg (by omega), if_neg h2]; simp)
    unfold moved; rw [if_neg (by omega), if_neg h2, may_two (x := (x.1, ((v x.2.1.toNat : Nat) : Int), ((v x.2.2.1.toNat : Nat) : Int), x.2.2.2)) h1 h2]; simp [h3]; omega
theorem moved_ok {x : N} (hx : okN x) {v : Nat → Nat} {m : Nat} (hm : m ≤ 65536) (hv : ∀ j ∈ parts x, v j < m) : okN (moved x v) := by
  obtain ⟨h0, h1, h2, h3⟩ := hx
  unfold moved
  by_cases g1 : x.1 ≤ 2
  · rw [if_pos g1]; exact ⟨h0, h1, h2, h3⟩
  · rw [if_neg g1]
    by_cases g2 : x.1 = 384
    · have e := hv x.2.1.toNat (by unfold parts; rw [if_neg g1, if_pos g2]; simp)
      rw [if_pos g2]; exact ⟨h0, by simp only; omega, h2, h3⟩
    · have e1 := hv x.2.1.toNat (by unfold parts; rw [if_neg g1, if_neg g2]; simp)
      have e2 := hv x.2.2.1.toNat (by unfold parts; rw [if_neg g1, if_neg g2]; simp)
      rw [if_neg g2]; exact ⟨h0, by simp only; omega, by simp only; omega, h3⟩

/-- the first places of a row, put into a pool: the pool, and where each stands -/
def intoF (P l : List N) : Nat → List N × List Nat
  | 0 => (P, [])
  | i + 1 => ((putN (intoF P l i).1 (moved (nat0 l i) fun j => (intoF P l i).2.getD j 0)).1, (intoF P l i).2 ++ [(putN (intoF P l i).1 (moved (nat0 l i) fun j => (intoF P l i).2.getD j 0)).2])
def pl (P l : List N) (i : Nat) : List N := (intoF P l i).1
def plc (P l : List N) (i : Nat) : Nat := (intoF P l (i + 1)).2.getD i 0
theorem intoF_len (P l : List N) (i : Nat) : (intoF P l i).2.length = i := by
  induction i with
  | zero => rfl
  | succ i ih => rw [intoF, List.length_append, ih]; rfl
theorem intoF_get (P l : List N) {i j : Nat} (h : j < i) : (intoF P l i).2.getD j 0 = plc P l j := by
  induction i with
  | zero => omega
  | succ i ih =>
    by_cases e : j = i
    · subst e; rfl
    · rw [intoF]
      rw [List.getD_eq_getElem?_getD, List.getElem?_append_left (by rw [intoF_len]; omega), ← List.getD_eq_getElem?_getD]
      exact ih (by omega)
/-- the node at a place, as it is put -/
def mv (P l : List N) (i : Nat) : N := moved (nat0 l i) (plc P l)
theorem pl_zero (P l : List N) : pl P l 0 = P := rfl
theorem into_moved {P l : List N} (hl : Row l) {i : Nat} (hi : i < l.length) : (moved (nat0 l i) fun j => (intoF P l i).2.getD j 0) = mv P l i :=
  moved_congr fun j hj => intoF_get P l (parts_lt (hl.2 i hi) hj)
theorem pl_succ {P l : List N} (hl : Row l) {i : Nat} (hi : i < l.length) : pl P l (i + 1) = (putN (pl P l i) (mv P l i)).1 := by
  unfold pl; rw [intoF, into_moved hl hi]
theorem plc_eq {P l : List N} (hl : Row l) {i : Nat} (hi : i < l.length) : plc P l i = (putN (pl P l i) (mv P l i)).2 := by
  unfold plc pl
  rw [intoF, List.getD_eq_getElem?_getD, List.getElem?_append_right (by rw [intoF_len]; exact Nat.le_refl _), intoF_len, into_moved hl hi]
  simp
/-- what is known of the pool behind the first places -/
theorem pl_inv {P l : List N} (hl : Row l) (ok : ∀ x ∈ l, okN x) (hP : Row P) (hO : Once P) (okP : ∀ x ∈ P, okN x) (hn : P.length + l.length ≤ 65536) : ∀ i, i ≤ l.length →
    (pl P l i).length ≤ P.length + i ∧ Row (pl P l i) ∧ Once (pl P l i) ∧ (∀ x ∈ pl P l i, okN x) ∧ (∀ j, j < i → plc P l j < (pl P l i).length ∧ nat0 (pl P l i) (plc P l j) = mv P l j) ∧ (∀ j, j < P.length → nat0 (pl P l i) j = nat0 P j) ∧ P.length ≤ (pl P l i).length := by
  intro i
  induction i with
  | zero => intro _; rw [pl_zero]; exact ⟨Nat.le_refl _, hP, hO, okP, fun j hj => by omega, fun j hj => rfl, Nat.le_refl _⟩
  | succ i ih =>
    intro hi
    have hil : i < l.length := by omega
    obtain ⟨h1, h2, h3, h4, h5, h6, h7⟩ := ih (by omega)
    have hlt : ∀ j ∈ parts (nat0 l i), plc P l j < (pl P l i).length := fun j hj => (h5 j (parts_lt (hl.2 i hil) hj)).1
    have hm : may (mv P l i) (pl P l i).length = true := moved_may (hl.2 i hil) hlt
    have hok : okN (mv P l i) := moved_ok (nat0_ok ok i) (m := (pl P l i).length) (by omega) hlt
    obtain ⟨g1, g2⟩ := putN_len (pl P l i) (mv P l i)
    obtain ⟨g3, g4⟩ := putN_at (pl P l i) (mv P l i)
    rw [pl_succ hl hil]
    refine ⟨by omega, putN_row h2 hm (by omega), putN_once h3 _, putN_ok h4 hok, fun j hj => ?_, fun j hj => by rw [putN_keep _ _ (by omega)]; exact h6 j hj, by omega⟩
    by_cases e : j = i
    · subst e; rw [plc_eq hl hil]; exact ⟨g3, g4⟩
    · obtain ⟨k1, k2⟩ := h5 j (by omega)
      exact ⟨by omega, by rw [putN_keep _ _ k1]; exact k2⟩
theorem row_nil : Row [] := ⟨by simp, fun i hi => by simp at hi⟩
theorem once_nil : Once [] := fun i j hi => by simp at hi
/-- two places are one just if the nodes that are put are the same -/
theorem plc_iff {P l : List N} (hl : Row l) (ok : ∀ x ∈ l, okN x) (hP : Row P) (hO : Once P) (okP : ∀ x ∈ P, okN x) (hn : P.length + l.length ≤ 65536) {i j : Nat} (hi : i < l.length) (hj : j < l.length) : plc P l i = plc P l j ↔ mv P l i = mv P l j := by
  obtain ⟨_, _, h3, _, h5, _⟩ := pl_inv hl ok hP hO okP hn l.length (Nat.le_refl _)
  obtain ⟨a1, a2⟩ := h5 i hi
  obtain ⟨b1, b2⟩ := h5 j hj
  constructor
  · intro h; rw [← a2, ← b2, h]
  · intro h; exact h3 _ _ a1 b1 (by rw [a2, b2, h])
end Go.Proofs.Ytkeigicobcjleab.TM
namespace Go.Proofs.Ytkeigicobcjleab.TM
set_option linter.unusedVariables false
set_option maxRecDepth 100000
/-- how many of the first places are so -/
def cnP (P : Nat → Bool) (j : Nat) : Nat := ((List.range j).filter P).length
def lsP (P : Nat → Bool) (n : Nat) : List Nat := (List.range n).filter P
theorem cnP_succ (P : Nat → Bool) (j : Nat) : cnP P (j + 1) = cnP P j + (if P j = true then 1 else 0) := by
  unfold cnP
  rw [List.range_succ, List.filter_append, List.length_append]
  congr 1
  simp only [List.filter_cons, List.filter_nil]
  split <;> simp
theorem cnP_mono (P : Nat → Bool) {j k : Nat} (h : j ≤ k) : cnP P j ≤ cnP P k := by
  induction k with
  | zero => have : j = 0 := by omega
            subst this; exact Nat.le_refl _
  | succ k ih =>
    by_cases e : j = k + 1
    · subst e; exact Nat.le_refl _
    · have := ih (by omega)
      rw [cnP_succ]; omega
theorem cnP_lt (P : Nat → Bool) {j k : Nat} (h : j < k) (hl : P j = true) : cnP P j < cnP P k := by
  have := cnP_mono P (show j + 1 ≤ k by omega)
  rw [cnP_succ, if_pos hl] at this
  omega
theorem cnP_near (P : Nat → Bool) {a b : Nat} (hab : a ≤ b) : cnP P b ≤ cnP P a + (b - a) := by
  induction b with
  | zero => have : a = 0 := by omega
            subst this; omega
  | succ b ih =>
    by_cases e : a = b + 1
    · subst e; omega
    · have := ih (by omega)
      rw [cnP_succ]
      split <;> omega
theorem lsP_succ (P : Nat → Bool) (n : Nat) : lsP P (n + 1) = lsP P n ++ (if P n = true then [n] else []) := by
  unfold lsP
  rw [List.range_succ, List.filter_append]
  congr 1
  simp only [List.filter_cons, List.filter_nil]
theorem lsP_len (P : Nat → Bool) (n : Nat) : (lsP P n).length = cnP P n := rfl
theorem lsP_get (P : Nat → Bool) : ∀ (n j : Nat), j < n → P j = true → (lsP P n)[cnP P j]? = some j := by
  intro n
  induction n with
  | zero => intro j h; omega
  | succ n ih =>
    intro j h hl
    rw [lsP_succ]
    by_cases e : j = n
    · subst e
      rw [if_pos hl, List.getElem?_append_right (by rw [lsP_len]; exact Nat.le_refl _), lsP_len]
      simp
    · have h1 := cnP_lt P (show j < n by omega) hl
      rw [List.getElem?_append_left (by rw [lsP_len]; exact h1)]
      exact ih j (by omega) hl
theorem lsP_mem {P : Nat → Bool} {n j : Nat} : j ∈ lsP P n ↔ j < n ∧ P j = true := by
  unfold lsP
  rw [List.mem_filter, List.mem_range]
theorem lsP_cnP {P : Nat → Bool} {n i : Nat} (hi : i < (lsP P n).length) : cnP P (lsP P n)[i] = i := by
  have hs : (lsP P n).Pairwise (· < ·) := List.Pairwise.filter _ List.pairwise_lt_range
  have hm := lsP_mem.1 (List.getElem_mem hi)
  have hg := lsP_get P n _ hm.1 hm.2
  obtain ⟨h1, h2⟩ := List.getElem?_eq_some_iff.1 hg
  rcases Nat.lt_trichotomy (cnP P (lsP P n)[i]) i with h | h | h
  · have := List.pairwise_iff_getElem.1 hs _ _ h1 hi h
    omega
  · exact h
  · have := List.pairwise_iff_getElem.1 hs _ _ hi h1 h
    omega
/-- in the tree of one of the roots -/
def inR (l : List N) (R : List Int) (i : Nat) : Bool := R.any fun x => inT l x.toNat i
def onlyL (l : List N) (R : List Int) : List N := (lsP (inR l R) l.length).map fun i => moved (nat0 l i) (cnP (inR l R))
theorem only_len (l : List N) (R : List Int) : (onlyL l R).length = cnP (inR l R) l.length := by unfold onlyL; rw [List.length_map]; rfl
theorem inR_part {l : List N} (hl : Row l) (R : List Int) {q j : Nat} (hq : q < l.length) (h : inR l R q = true) (hj : j ∈ parts (nat0 l q)) : inR l R j = true := by
  unfold inR at *
  rw [List.any_eq_true] at *
  obtain ⟨x, hx, h1⟩ := h
  exact ⟨x, hx, inT_part hl hq h1 hj⟩
theorem inR_root {l : List N} {R : List Int} {x : Int} (hx : x ∈ R) : inR l R x.toNat = true := by
  unfold inR
  rw [List.any_eq_true]
  exact ⟨x, hx, inT_self l _⟩
theorem only_at (l : List N) (R : List Int) {i : Nat} (hi : i < l.length) (h : inR l R i = true) : nat0 (onlyL l R) (cnP (inR l R) i) = moved (nat0 l i) (cnP (inR l R)) := by
  have := lsP_get (inR l R) l.length i hi h
  unfold nat0 onlyL
  rw [List.getD_eq_getElem?_getD, List.getElem?_map, this]
  rfl
theorem only_lt (l : List N) (R : List Int) {i : Nat} (hi : i < l.length) (h : inR l R i = true) : cnP (inR l R) i < (onlyL l R).length := by
  rw [only_len]; exact cnP_lt _ hi h
theorem only_of (l : List N) (R : List Int) {j : Nat} (h : j < (onlyL l R).length) : ∃ i, i < l.length ∧ inR l R i = true ∧ cnP (inR l R) i = j := by
  have h' : j < (lsP (inR l R) l.length).length := by rw [lsP_len]; rw [only_len] at h; exact h
  have := lsP_mem.1 (List.getElem_mem h')
  exact ⟨_, this.1, this.2, lsP_cnP h'⟩
theorem only_row {l : List N} (hl : Row l) (R : List Int) : Row (onlyL l R) := by
  refine ⟨?_, fun j hj => ?_⟩
  · rw [only_len]
    have := cnP_near (inR l R) (Nat.zero_le l.length)
    have e : cnP (inR l R) 0 = 0 := rfl
    have := hl.1
    omega
  · obtain ⟨i, hi, h, rfl⟩ := only_of l R hj
    rw [only_at l R hi h]
    exact moved_may (hl.2 i hi) fun p hp => cnP_lt _ (parts_lt (hl.2 i hi) hp) (inR_part hl R hi h hp)
theorem only_ok {l : List N} (hl : Row l) (ok : ∀ x ∈ l, okN x) (R : List Int) : ∀ x ∈ onlyL l R, okN x := by
  intro x hx
  obtain ⟨j, hj, rfl⟩ := List.getElem_of_mem hx
  obtain ⟨i, hi, h, rfl⟩ := only_of l R hj
  rw [← nat0_eq hj, only_at l R hi h]
  have hle : cnP (inR l R) i ≤ 65536 := by
    have := cnP_near (inR l R) (Nat.zero_le i)
    have e : cnP (inR l R) 0 = 0 := rfl
    have := hl.1
    omega
  exact moved_ok (nat0_ok ok i) hle fun p hp => cnP_lt _ (parts_lt (hl.2 i hi) hp) (inR_part hl R hi h hp)
theorem evalN_moved {x : N} {i : Nat} (hx : may x i = true) {c : Nat → Nat} {v u : Nat → Int} (r : List Int) (h : ∀ j ∈ parts x, v (c j) = u j) : evalN (moved x c) v r = evalN x u r := by
  rcases may_ok hx with ⟨h1, _⟩ | ⟨h1, _⟩ | ⟨h1, _⟩ | ⟨h1, h2, _⟩
  · unfold moved evalN; rw [if_pos (show x.1 ≤ 2 by omega), if_pos h1, if_pos h1]
  · unfold moved evalN; rw [if_pos (show x.1 ≤ 2 by omega), if_neg (show ¬ x.1 = 1 by omega), if_neg (show ¬ x.1 = 1 by omega), if_pos h1, if_pos h1]
  · have e := h x.2.1.toNat (by unfold parts; rw [if_neg (by omega), if_pos h1]; simp)
    unfold moved
    rw [if_neg (show ¬ x.1 ≤ 2 by omega), if_pos h1]
    unfold evalN
    simp only [Int.toNat_natCast]
    rw [if_neg (show ¬ x.1 = 1 by omega), if_neg (show ¬ x.1 = 1 by omega), if_neg (show ¬ x.1 = 2 by omega), if_neg (show ¬ x.1 = 2 by omega), if_pos h1, if_pos h1, e]
  · have := isA_12 h1
    have e1 := h x.2.1.toNat (by unfold parts; rw [if_neg (by omega), if_neg h2]; simp)
    have e2 := h x.2.2.1.toNat (by unfold parts; rw [if_neg (by omega), if_neg h2]; simp)
    unfold moved
    rw [if_neg (show ¬ x.1 ≤ 2 by omega), if_neg h2]
    unfold evalN
    simp only [Int.toNat_natCast]
    rw [if_neg (show ¬ x.1 = 1 by omega), if_neg (show ¬ x.1 = 1 by omega), if_neg (show ¬ x.1 = 2 by omega), if_neg (show ¬ x.1 = 2 by omega), if_neg h2, if_neg h2, e1, e2]
theorem only_val {l : List N} (hl : Row l) (R r : List Int) : ∀ i, i < l.length → inR l R i = true → val (onlyL l R) r (cnP (inR l R) i) = val l r i := by
  intro i
  induction i using Nat.strongRecOn with
  | _ i ih =>
    intro hi h
    rw [val_row (only_row hl R) r (only_lt l R hi h), val_row hl r hi, only_at l R hi h]
    exact evalN_moved (hl.2 i hi) r fun j hj => ih j (parts_lt (hl.2 i hi) hj) (by have := parts_lt (hl.2 i hi) hj; omega) (inR_part hl R hi h hj)
theorem moved_op (x : N) (c : Nat → Nat) : (moved x c).1 = x.1 ∧ (moved x c).2.2.2 = x.2.2.2 := by
  unfold moved
  split
  · exact ⟨rfl, rfl⟩
  · split <;> exact ⟨rfl, rfl⟩
end Go.Proofs.Ytkeigicobcjleab.TM
