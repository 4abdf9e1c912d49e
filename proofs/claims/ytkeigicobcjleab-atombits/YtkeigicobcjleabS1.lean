/-
  Plain laws of what is told of two words of 32 bits (0 of a division by 0): the ones that the rules of layer 12 lean on.
-/
import Derived.Test.YtkeigicobcjleabTerTree
namespace Go.Proofs.Ytkeigicobcjleab.WM
open Go.RowKit
theorem n_or (a b : Nat) (ha : a < 4294967296) (hb : b < 4294967296) : val 64 (a : Int) (b : Int) = ((a ||| b : Nat) : Int) := or32 a b ha hb
theorem n_and (a b : Nat) (ha : a < 4294967296) (hb : b < 4294967296) : val 80 (a : Int) (b : Int) = ((a &&& b : Nat) : Int) := and32 a b ha hb
theorem n_xor (a b : Nat) (ha : a < 4294967296) (hb : b < 4294967296) : val 160 (a : Int) (b : Int) = ((a ^^^ b : Nat) : Int) := xor32 a b ha hb
theorem v_add (a b : Int) : val 0 a b = (a + b) % 4294967296 := rfl
theorem v_sub (a b : Int) : val 16 a b = (a - b) % 4294967296 := rfl
theorem v_mul (a b : Int) : val 32 a b = a * b % 4294967296 := rfl
theorem v_div (a b : Int) : val 48 a b = if b = 0 then 0 else a / b % 4294967296 := rfl
theorem v_lsh (a b : Int) : val 96 a b = a * 2 ^ (b % 32).toNat % 4294967296 := rfl
theorem v_rsh (a b : Int) : val 112 a b = a / 2 ^ (b % 32).toNat % 4294967296 := rfl
theorem v_neg (a b : Int) : val 128 a b = -a % 4294967296 := rfl
theorem l_or (a b : Nat) (ha : a < 4294967296) (hb : b < 4294967296) : a ||| b < 4294967296 := Nat.or_lt_two_pow (n := 32) ha hb
theorem l_and (a b : Nat) (ha : a < 4294967296) : a &&& b < 4294967296 := Nat.lt_of_le_of_lt Nat.and_le_left ha
theorem l_xor (a b : Nat) (ha : a < 4294967296) (hb : b < 4294967296) : a ^^^ b < 4294967296 := Nat.xor_lt_two_pow (n := 32) ha hb
end Go.Proofs.Ytkeigicobcjleab.WM
namespace Go.Proofs.Ytkeigicobcjleab.TM
set_option linter.unusedVariables false
set_option maxRecDepth 100000
/-- a word -/
def W32 (a : Int) : Prop := 0 ≤ a ∧ a < 4294967296
theorem W32.nat {a : Int} (h : W32 a) : ∃ n : Nat, a = n ∧ n < 4294967296 := ⟨a.toNat, by have := h.1; omega, by have := h.2; omega⟩
theorem told_w32 (op a b : Int) : W32 (told op a b) := by
  unfold told W32
  split
  · exact ⟨WM.val_nonneg _ _ _, WM.val_lt _ _ _⟩
  · omega
def trn (op : Int) : Bool := op == 0 || op == 32 || op == 64 || op == 80 || op == 160
theorem trn_iff {op : Int} : trn op = true ↔ op = 0 ∨ op = 32 ∨ op = 64 ∨ op = 80 ∨ op = 160 := by
  unfold trn; simp only [Bool.or_eq_true, beq_iff_eq, or_assoc]
theorem told_on {op : Int} (h : op ≠ 48) (h2 : isA (op + 256) = true) (a b : Int) : told op a b = WM.val op a b := by
  have := isA_iff.1 h2
  unfold told
  rw [if_pos]
  unfold WM.ok
  simp only [Bool.or_eq_true, Bool.and_eq_true, beq_iff_eq]
  omega
theorem told_trn {op : Int} (h : trn op = true) (a b : Int) : told op a b = WM.val op a b := by
  have := trn_iff.1 h
  exact told_on (by omega) (isA_iff.2 (by omega)) a b
theorem told_comm {op : Int} (h : trn op = true) {a b : Int} (ha : W32 a) (hb : W32 b) : told op a b = told op b a := by
  rw [told_trn h, told_trn h]
  obtain ⟨A, rfl, hA⟩ := ha.nat
  obtain ⟨B, rfl, hB⟩ := hb.nat
  rcases trn_iff.1 h with rfl | rfl | rfl | rfl | rfl
  · rw [WM.v_add, WM.v_add, Int.add_comm]
  · rw [WM.v_mul, WM.v_mul, Int.mul_comm]
  · rw [WM.n_or A B hA hB, WM.n_or B A hB hA, Nat.or_comm]
  · rw [WM.n_and A B hA hB, WM.n_and B A hB hA, Nat.and_comm]
  · rw [WM.n_xor A B hA hB, WM.n_xor B A hB hA, Nat.xor_comm]
theorem told_assoc {op : Int} (h : trn op = true) {a b c : Int} (ha : W32 a) (hb : W32 b) (hc : W32 c) : told op (told op a b) c = told op a (told op b c) := by
  rw [told_trn h, told_trn h, told_trn h, told_trn h]
  obtain ⟨A, rfl, hA⟩ := ha.nat
  obtain ⟨B, rfl, hB⟩ := hb.nat
  obtain ⟨C, rfl, hC⟩ := hc.nat
  rcases trn_iff.1 h with rfl | rfl | rfl | rfl | rfl
  · rw [WM.v_add, WM.v_add, WM.v_add, WM.v_add]; omega
  · rw [WM.v_mul, WM.v_mul, WM.v_mul, WM.v_mul, Int.mul_emod ((A : Int) * B % 4294967296), Int.emod_emod, ← Int.mul_emod, Int.mul_emod (A : Int) ((B : Int) * C % 4294967296), Int.emod_emod, ← Int.mul_emod, Int.mul_assoc]
  · rw [WM.n_or A B hA hB, WM.n_or B C hB hC, WM.n_or _ C (WM.l_or A B hA hB) hC, WM.n_or A _ hA (WM.l_or B C hB hC), Nat.or_assoc]
  · rw [WM.n_and A B hA hB, WM.n_and B C hB hC, WM.n_and _ C (WM.l_and A B hA) hC, WM.n_and A _ hA (WM.l_and B C hB), Nat.and_assoc]
  · rw [WM.n_xor A B hA hB, WM.n_xor B C hB hC, WM.n_xor _ C (WM.l_xor A B hA hB) hC, WM.n_xor A _ hA (WM.l_xor B C hB hC), Nat.xor_assoc]
/-- what a number on the right is taken as -/
def shK (op k : Int) : Int := if op = 96 ∨ op = 112 then k % 32 else k
theorem shK_w32 {op k : Int} (h : W32 k) : W32 (shK op k) := by unfold shK W32 at *; split <;> omega
theorem shK_twice (op k : Int) : shK op (shK op k) = shK op k := by unfold shK; split <;> omega
theorem told_shK (op a k : Int) : told op a (shK op k) = told op a k := by
  unfold shK
  split
  · rename_i h
    rcases h with rfl | rfl
    · rw [told_on (by decide) (by decide), told_on (by decide) (by decide), WM.v_lsh, WM.v_lsh, Int.emod_emod]
    · rw [told_on (by decide) (by decide), told_on (by decide) (by decide), WM.v_rsh, WM.v_rsh, Int.emod_emod]
  · rfl
def idleB (op k : Int) : Bool := (k == 0 && (op == 0 || op == 16 || op == 64 || op == 160 || op == 96 || op == 112)) || (k == 1 && (op == 32 || op == 48)) || (k == 4294967295 && op == 80)
def zeroB (op k : Int) : Bool := k == 0 && (op == 32 || op == 80 || op == 48)
def fullB (op k : Int) : Bool := k == 4294967295 && op == 64
theorem all_and (A : Nat) (hA : A < 4294967296) : A &&& 4294967295 = A := by
  have := Nat.and_two_pow_sub_one_eq_mod A 32
  have e : (2 : Nat) ^ 32 - 1 = 4294967295 := by decide
  rw [e] at this
  rw [this]; exact Nat.mod_eq_of_lt hA
theorem all_or (A : Nat) (hA : A < 4294967296) : A ||| 4294967295 = 4294967295 := by
  have h1 := Nat.right_le_or (n := A) (m := 4294967295)
  have h2 := WM.l_or A 4294967295 hA (by omega)
  omega
theorem told_idle {op k a : Int} (h : idleB op k = true) (ha : W32 a) : told op a k = a := by
  obtain ⟨A, rfl, hA⟩ := ha.nat
  unfold idleB at h
  simp only [Bool.or_eq_true, Bool.and_eq_true, beq_iff_eq] at h
  rcases h with (⟨rfl, h⟩ | ⟨rfl, h⟩) | ⟨rfl, rfl⟩
  · rcases h with ((((rfl | rfl) | rfl) | rfl) | rfl) | rfl
    · rw [told_on (by decide) (by decide), WM.v_add]; omega
    · rw [told_on (by decide) (by decide), WM.v_sub]; omega
    · rw [told_on (by decide) (by decide)]
      have := WM.n_or A 0 hA (by omega)
      rw [Nat.or_zero] at this
      exact this
    · rw [told_on (by decide) (by decide)]
      have := WM.n_xor A 0 hA (by omega)
      rw [Nat.xor_zero] at this
      exact this
    · rw [told_on (by decide) (by decide), WM.v_lsh, show ((0 : Int) % 32).toNat = 0 by decide, Int.pow_zero]; omega
    · rw [told_on (by decide) (by decide), WM.v_rsh, show ((0 : Int) % 32).toNat = 0 by decide, Int.pow_zero]; omega
  · rcases h with rfl | rfl
    · rw [told_on (by decide) (by decide), WM.v_mul]; omega
    · unfold told
      rw [if_pos (by decide), WM.v_div, if_neg (by decide)]; omega
  · rw [told_on (by decide) (by decide)]
    have := WM.n_and A 4294967295 hA (by omega)
    rw [all_and A hA] at this
    exact this
theorem told_zero {op k a : Int} (h : zeroB op k = true) (ha : W32 a) : told op a k = 0 := by
  obtain ⟨A, rfl, hA⟩ := ha.nat
  unfold zeroB at h
  simp only [Bool.or_eq_true, Bool.and_eq_true, beq_iff_eq] at h
  obtain ⟨rfl, (rfl | rfl) | rfl⟩ := h
  · rw [told_on (by decide) (by decide), WM.v_mul]; omega
  · rw [told_on (by decide) (by decide)]
    have := WM.n_and A 0 hA (by omega)
    rw [Nat.and_zero] at this
    exact this
  · unfold told
    rw [if_neg (by decide)]
theorem told_full {op k a : Int} (h : fullB op k = true) (ha : W32 a) : told op a k = 4294967295 := by
  obtain ⟨A, rfl, hA⟩ := ha.nat
  unfold fullB at h
  simp only [Bool.and_eq_true, beq_iff_eq] at h
  obtain ⟨rfl, rfl⟩ := h
  rw [told_on (by decide) (by decide)]
  have := WM.n_or A 4294967295 hA (by omega)
  rw [all_or A hA] at this
  exact this
theorem told_self0 {op a : Int} (h : op = 16 ∨ op = 160) (ha : W32 a) : told op a a = 0 := by
  obtain ⟨A, rfl, hA⟩ := ha.nat
  rcases h with rfl | rfl
  · rw [told_on (by decide) (by decide), WM.v_sub]; omega
  · rw [told_on (by decide) (by decide), WM.n_xor A A hA hA, Nat.xor_self]; rfl
theorem told_selfA {op a : Int} (h : op = 64 ∨ op = 80) (ha : W32 a) : told op a a = a := by
  obtain ⟨A, rfl, hA⟩ := ha.nat
  rcases h with rfl | rfl
  · rw [told_on (by decide) (by decide), WM.n_or A A hA hA, Nat.or_self]
  · rw [told_on (by decide) (by decide), WM.n_and A A hA hA, Nat.and_self]
theorem told_negneg {a : Int} (ha : W32 a) : told 128 (told 128 a 0) 0 = a := by
  unfold W32 at ha
  rw [told_neg, told_neg, WM.v_neg, WM.v_neg]; omega
end Go.Proofs.Ytkeigicobcjleab.TM
namespace Go.Proofs.Ytkeigicobcjleab.TM
set_option linter.unusedVariables false
set_option maxRecDepth 100000
def isOp (op : Int) : Bool := isA (op + 256)
theorem isOp_iff {op : Int} : isOp op = true ↔ op = 0 ∨ op = 16 ∨ op = 32 ∨ op = 48 ∨ op = 64 ∨ op = 80 ∨ op = 96 ∨ op = 112 ∨ op = 128 ∨ op = 160 := by
  unfold isOp; rw [isA_iff]; omega
theorem trn_op {op : Int} (h : trn op = true) : isOp op = true := by
  have := trn_iff.1 h; rw [isOp_iff]; omega
/-- a number's tree -/
def nmT : Tr → Option Int
  | .num k => some k
  | _ => none
/-- of the other sign of something: that -/
def ngT : Tr → Option Tr
  | .neg a => some a
  | _ => none
theorem nmT_some {t : Tr} {k : Int} (h : nmT t = some k) : t = .num k := by
  unfold nmT at h; split at h
  · injection h with h; rw [h]
  · cases h
theorem ngT_some {t a : Tr} (h : ngT t = some a) : t = .neg a := by
  unfold ngT at h; split at h
  · injection h with h; rw [h]
  · cases h
/-- are two trees the same? -/
def eqT : Tr → Tr → Bool
  | .num a, .num b => a == b
  | .var a, .var b => Nat.beq a b
  | .add a b, .add c d => eqT a c && eqT b d
  | .sub a b, .sub c d => eqT a c && eqT b d
  | .neg a, .neg b => eqT a b
  | .mulL k a, .mulL l b => k == l && eqT a b
  | .mulR a k, .mulR b l => eqT a b && k == l
  | _, _ => false
theorem eqT_self (s : Tr) : eqT s s = true := by
  induction s with
  | num a => simp [eqT]
  | var a => simp [eqT]
  | add a b h1 h2 => simp [eqT, h1, h2]
  | sub a b h1 h2 => simp [eqT, h1, h2]
  | neg a h => simp [eqT, h]
  | mulL k a h => simp [eqT, h]
  | mulR a k h => simp [eqT, h]
theorem eqT_eq : ∀ s t : Tr, eqT s t = true → s = t := by
  intro s
  induction s with
  | num a => intro t h; cases t <;> simp [eqT] at h; rw [h]
  | var a => intro t h; cases t <;> simp [eqT] at h; rw [h]
  | add a b h1 h2 =>
    intro t h
    cases t <;> simp [eqT] at h
    rw [h1 _ h.1, h2 _ h.2]
  | sub a b h1 h2 =>
    intro t h
    cases t <;> simp [eqT] at h
    rw [h1 _ h.1, h2 _ h.2]
  | neg a h1 =>
    intro t h
    cases t <;> simp [eqT] at h
    rw [h1 _ h]
  | mulL k a h1 =>
    intro t h
    cases t <;> simp [eqT] at h
    rw [h.1, h1 _ h.2]
  | mulR a k h1 =>
    intro t h
    cases t <;> simp [eqT] at h
    rw [h1 _ h.1, h.2]
theorem eqT_iff {s t : Tr} : eqT s t = true ↔ s = t := ⟨eqT_eq s t, fun h => by rw [h]; exact eqT_self t⟩
theorem eqT_no {s t : Tr} : eqT s t = false ↔ s ≠ t := by
  constructor
  · intro h e; rw [eqT_iff.2 e] at h; cases h
  · intro h
    cases hh : eqT s t with
    | false => rfl
    | true => exact absurd (eqT_iff.1 hh) h
/-- rule 3, a number on the right of what is none -/
def rgtT (op : Int) : Tr → Int → Tr
  | .mulL o (.add x (.num j)), k =>
    if idleB op (shK op k) = true then op2 o x (.num j) else if zeroB op (shK op k) = true then .num 0 else if fullB op (shK op k) = true then .num 4294967295
    else if trn op = true ∧ o = op then (match nmT x with
      | some i => .num (told op i (told op j (shK op k)))
      | none => rgtT op x (told op j (shK op k)))
    else op2 op (op2 o x (.num j)) (.num (shK op k))
  | t, k => if idleB op (shK op k) = true then t else if zeroB op (shK op k) = true then .num 0 else if fullB op (shK op k) = true then .num 4294967295 else op2 op t (.num (shK op k))
/-- the rules -/
def mkT (op : Int) (s t : Tr) : Tr :=
  if op = 128 then (match nmT s with
    | some i => .num (told 128 i 0)
    | none => match ngT s with
      | some x => x
      | none => .neg s)
  else match nmT s, nmT t with
    | some i, some j => .num (told op i j)
    | some i, none => if trn op = true then rgtT op t i else op2 op s t
    | none, some j => rgtT op s j
    | none, none => if eqT s t = true ∧ (op = 16 ∨ op = 160) then .num 0 else if eqT s t = true ∧ (op = 64 ∨ op = 80) then s else op2 op s t
/-- made anew -/
def anewT : Tr → Tr
  | .neg a => mkT 128 (anewT a) (.num 0)
  | .mulL op (.add a b) => mkT op (anewT a) (anewT b)
  | .num k => .num k
  | .var w => .var w
  | t => t
/-- a tree that a row may have -/
def okT : Tr → Prop
  | .num k => W32 k
  | .var w => w < 16
  | .neg a => okT a
  | .mulL op (.add a b) => isOp op = true ∧ op ≠ 128 ∧ okT a ∧ okT b
  | _ => False
theorem tr_okT {l : List N} (hl : Row l) (ok : ∀ x ∈ l, okN x) : ∀ i, i < l.length → okT (tr l i) := by
  intro i
  induction i using Nat.strongRecOn with
  | _ i ih =>
    intro hi
    have hp : ∀ j ∈ parts (nat0 l i), okT (tr l j) := fun j hj => ih j (parts_lt (hl.2 i hi) hj) (by have := parts_lt (hl.2 i hi) hj; omega)
    rw [tr_row hl hi]
    have mi := hl.2 i hi
    obtain ⟨_, _, _, k1, k2⟩ := nat0_ok ok i
    generalize nat0 l i = x at *
    rcases may_ok mi with ⟨h1, _⟩ | ⟨h1, _, _, h4⟩ | ⟨h1, _⟩ | ⟨h1, h2, _⟩
    · rw [trN_num h1, okT]; exact ⟨k1, k2⟩
    · rw [trN_word h1]; show x.2.2.2.toNat < 16; omega
    · rw [trN_neg h1, okT]; exact hp _ (by rw [parts_neg h1]; simp)
    · rw [trN_two h1 h2, okT]
      exact ⟨by unfold isOp; rw [show x.1 - 256 + 256 = x.1 by omega]; exact h1, by omega, hp _ (by rw [parts_two h1 h2]; simp), hp _ (by rw [parts_two h1 h2]; simp)⟩
/-- a record's words -/
def okW (r : List Int) : Prop := ∀ i, W32 (r.getD i 0)
theorem valT_w32 {r : List Int} (hr : okW r) : ∀ t, okT t → W32 (valT r t) := by
  intro t ht
  unfold valT
  split
  · exact ht
  · exact hr _
  · exact told_w32 _ _ _
  · exact told_w32 _ _ _
  · unfold W32; omega
theorem rgt_ok {op : Int} (h1 : isOp op = true) (h2 : op ≠ 128) : ∀ (t : Tr) (k : Int), okT t → W32 k → okT (rgtT op t k) := by
  intro t k
  induction t, k using rgtT.induct op with
  | case1 o x j k e => intro ht hk; rw [rgtT, if_pos e]; exact ht
  | case2 o x j k e1 e2 => intro ht hk; rw [rgtT, if_neg e1, if_pos e2, okT]; unfold W32; omega
  | case3 o x j k e1 e2 e3 => intro ht hk; rw [rgtT, if_neg e1, if_neg e2, if_pos e3, okT]; unfold W32; omega
  | case4 o x j k e1 e2 e3 e4 i e5 => intro ht hk; rw [rgtT, if_neg e1, if_neg e2, if_neg e3, if_pos e4, e5]; exact told_w32 _ _ _
  | case5 o x j k e1 e2 e3 e4 e5 ih =>
    intro ht hk
    rw [rgtT, if_neg e1, if_neg e2, if_neg e3, if_pos e4, e5]
    rw [okT] at ht
    exact ih ht.2.2.1 (told_w32 _ _ _)
  | case6 o x j k e1 e2 e3 e4 =>
    intro ht hk
    rw [rgtT, if_neg e1, if_neg e2, if_neg e3, if_neg e4, okT]
    exact ⟨h1, h2, ht, by rw [okT]; exact shK_w32 hk⟩
  | case7 t k hn e => intro ht hk; rw [rgtT, if_pos e]; exact ht; exact hn
  | case8 t k hn e1 e2 => intro ht hk; rw [rgtT, if_neg e1, if_pos e2, okT]; unfold W32; omega; exact hn
  | case9 t k hn e1 e2 e3 => intro ht hk; rw [rgtT, if_neg e1, if_neg e2, if_pos e3, okT]; unfold W32; omega; exact hn
  | case10 t k hn e1 e2 e3 =>
    intro ht hk
    rw [rgtT, if_neg e1, if_neg e2, if_neg e3, okT]
    exact ⟨h1, h2, ht, by rw [okT]; exact shK_w32 hk⟩
    exact hn
theorem rgt_val {op : Int} (h1 : isOp op = true) (h2 : op ≠ 128) {r : List Int} (hr : okW r) : ∀ (t : Tr) (k : Int), okT t → W32 k → valT r (rgtT op t k) = told op (valT r t) k := by
  intro t k
  induction t, k using rgtT.induct op with
  | case1 o x j k e => intro ht hk; rw [rgtT, if_pos e, ← told_shK op _ k, told_idle e (valT_w32 hr _ ht)]
  | case2 o x j k e1 e2 => intro ht hk; rw [rgtT, if_neg e1, if_pos e2, ← told_shK op _ k, told_zero e2 (valT_w32 hr _ ht), valT]
  | case3 o x j k e1 e2 e3 => intro ht hk; rw [rgtT, if_neg e1, if_neg e2, if_pos e3, ← told_shK op _ k, told_full e3 (valT_w32 hr _ ht), valT]
  | case4 o x j k e1 e2 e3 e4 i e5 =>
    intro ht hk
    obtain ⟨e4, rfl⟩ := e4
    have ht' := ht
    rw [okT] at ht'
    obtain ⟨_, _, hx, hj⟩ := ht'
    rw [nmT_some e5] at hx
    rw [rgtT, if_neg e1, if_neg e2, if_neg e3, if_pos ⟨e4, rfl⟩, e5, ← told_shK o _ k, valT, valT, nmT_some e5, valT, valT]
    rw [okT] at hx hj
    exact (told_assoc e4 hx hj (shK_w32 hk)).symm
  | case5 o x j k e1 e2 e3 e4 e5 ih =>
    intro ht hk
    obtain ⟨e4, rfl⟩ := e4
    have ht' := ht
    rw [okT] at ht'
    obtain ⟨_, _, hx, hj⟩ := ht'
    rw [rgtT, if_neg e1, if_neg e2, if_neg e3, if_pos ⟨e4, rfl⟩, e5]
    show valT r (rgtT o x (told o j (shK o k))) = _
    rw [ih hx (told_w32 _ _ _), ← told_shK o _ k, valT, valT]
    rw [okT] at hj
    exact (told_assoc e4 (valT_w32 hr _ hx) hj (shK_w32 hk)).symm
  | case6 o x j k e1 e2 e3 e4 =>
    intro ht hk
    rw [rgtT, if_neg e1, if_neg e2, if_neg e3, if_neg e4, valT, valT, told_shK]
  | case7 t k hn e => intro ht hk; rw [rgtT, if_pos e, ← told_shK op _ k, told_idle e (valT_w32 hr _ ht)]; exact hn
  | case8 t k hn e1 e2 => intro ht hk; rw [rgtT, if_neg e1, if_pos e2, ← told_shK op _ k, told_zero e2 (valT_w32 hr _ ht), valT]; exact hn
  | case9 t k hn e1 e2 e3 => intro ht hk; rw [rgtT, if_neg e1, if_neg e2, if_pos e3, ← told_shK op _ k, told_full e3 (valT_w32 hr _ ht), valT]; exact hn
  | case10 t k hn e1 e2 e3 =>
    intro ht hk
    rw [rgtT, if_neg e1, if_neg e2, if_neg e3, valT, valT, told_shK]
    exact hn
theorem mkT_neg (s t : Tr) : mkT 128 s t = (match nmT s with | some i => .num (told 128 i 0) | none => match ngT s with | some x => x | none => .neg s) := by unfold mkT; rw [if_pos rfl]
theorem mkT_nn {op : Int} (h : op ≠ 128) {s t : Tr} {i j : Int} (hs : nmT s = some i) (ht : nmT t = some j) : mkT op s t = .num (told op i j) := by unfold mkT; rw [if_neg h, hs, ht]
theorem mkT_n0 {op : Int} (h : op ≠ 128) {s t : Tr} {i : Int} (hs : nmT s = some i) (ht : nmT t = none) : mkT op s t = if trn op = true then rgtT op t i else op2 op s t := by unfold mkT; rw [if_neg h, hs, ht]
theorem mkT_0n {op : Int} (h : op ≠ 128) {s t : Tr} {j : Int} (hs : nmT s = none) (ht : nmT t = some j) : mkT op s t = rgtT op s j := by unfold mkT; rw [if_neg h, hs, ht]
theorem mkT_00 {op : Int} (h : op ≠ 128) {s t : Tr} (hs : nmT s = none) (ht : nmT t = none) : mkT op s t = if eqT s t = true ∧ (op = 16 ∨ op = 160) then .num 0 else if eqT s t = true ∧ (op = 64 ∨ op = 80) then s else op2 op s t := by unfold mkT; rw [if_neg h, hs, ht]
/-- a made tree is one of these -/
theorem mkT_cases {op : Int} (h1 : isOp op = true) (s t : Tr) {P : Tr → Prop}
    (c1 : op = 128 → ∀ i, s = .num i → P (.num (told 128 i 0))) (c2 : op = 128 → ∀ x, s = .neg x → P x) (c3 : op = 128 → nmT s = none → ngT s = none → P (.neg s))
    (c4 : op ≠ 128 → ∀ i j, s = .num i → t = .num j → P (.num (told op i j))) (c5 : op ≠ 128 → ∀ i, s = .num i → nmT t = none → trn op = true → P (rgtT op t i))
    (c6 : op ≠ 128 → ∀ i, s = .num i → nmT t = none → trn op = false → P (op2 op s t)) (c7 : op ≠ 128 → ∀ j, nmT s = none → t = .num j → P (rgtT op s j))
    (c8 : op ≠ 128 → nmT s = none → nmT t = none → s = t → (op = 16 ∨ op = 160) → P (.num 0)) (c9 : op ≠ 128 → nmT s = none → nmT t = none → s = t → (op = 64 ∨ op = 80) → P s)
    (c10 : op ≠ 128 → nmT s = none → nmT t = none → (s = t → op ≠ 16 ∧ op ≠ 160 ∧ op ≠ 64 ∧ op ≠ 80) → P (op2 op s t)) : P (mkT op s t) := by
  by_cases h : op = 128
  · subst h
    rw [mkT_neg]
    cases e : nmT s with
    | some i => exact c1 rfl i (nmT_some e)
    | none =>
      cases e2 : ngT s with
      | some x => exact c2 rfl x (ngT_some e2)
      | none => exact c3 rfl e e2
  · cases e : nmT s with
    | some i =>
      cases e2 : nmT t with
      | some j => rw [mkT_nn h e e2]; exact c4 h i j (nmT_some e) (nmT_some e2)
      | none =>
        rw [mkT_n0 h e e2]
        cases e3 : trn op with
        | true => rw [if_pos rfl]; exact c5 h i (nmT_some e) e2 e3
        | false => rw [if_neg (by simp)]; exact c6 h i (nmT_some e) e2 e3
    | none =>
      cases e2 : nmT t with
      | some j => rw [mkT_0n h e e2]; exact c7 h j e (nmT_some e2)
      | none =>
        rw [mkT_00 h e e2]
        split
        · rename_i g; exact c8 h e e2 (eqT_iff.1 g.1) g.2
        · rename_i g
          split
          · rename_i g2; exact c9 h e e2 (eqT_iff.1 g2.1) g2.2
          · rename_i g2
            refine c10 h e e2 fun hst => ?_
            have := eqT_iff.2 hst
            rw [this] at g g2
            simp only [true_and] at g g2
            omega
theorem mk_ok {op : Int} (h1 : isOp op = true) {s t : Tr} (hs : okT s) (ht : op ≠ 128 → okT t) : okT (mkT op s t) := by
  refine mkT_cases h1 s t ?_ ?_ ?_ ?_ ?_ ?_ ?_ ?_ ?_ ?_
  · intro _ i _; exact told_w32 _ _ _
  · intro _ x e; rw [e] at hs; exact hs
  · intro _ _ _; exact hs
  · intro _ i j _ _; exact told_w32 _ _ _
  · intro h i e _ _; rw [e] at hs; exact rgt_ok h1 h t i (ht h) hs
  · intro h _ _ _ _; exact ⟨h1, h, hs, ht h⟩
  · intro h j _ e; have := ht h; rw [e] at this; exact rgt_ok h1 h s j hs this
  · intro _ _ _ _ _; show W32 0; unfold W32; omega
  · intro _ _ _ _ _; exact hs
  · intro h _ _ _; exact ⟨h1, h, hs, ht h⟩
/-- P12: the value of what is made is what is reckoned of the values -/
theorem mk_val {op : Int} (h1 : isOp op = true) {r : List Int} (hr : okW r) {s t : Tr} (hs : okT s) (ht : op ≠ 128 → okT t) : valT r (mkT op s t) = if op = 128 then told 128 (valT r s) 0 else told op (valT r s) (valT r t) := by
  refine mkT_cases (P := fun u => valT r u = if op = 128 then told 128 (valT r s) 0 else told op (valT r s) (valT r t)) h1 s t ?_ ?_ ?_ ?_ ?_ ?_ ?_ ?_ ?_ ?_
  · intro h i e; rw [if_pos h, e, valT, valT]
  · intro h x e; rw [if_pos h, e, valT]; rw [e] at hs; exact (told_negneg (valT_w32 hr x hs)).symm
  · intro h _ _; rw [if_pos h, valT]
  · intro h i j e1 e2; rw [if_neg h, e1, e2, valT, valT, valT]
  · intro h i e1 _ e3
    rw [e1, okT] at hs
    rw [if_neg h, e1, rgt_val h1 h hr t i (ht h) hs, valT]
    exact told_comm e3 (valT_w32 hr t (ht h)) hs
  · intro h i e1 _ _; rw [if_neg h, valT]
  · intro h j _ e2
    have := ht h
    rw [e2, okT] at this
    rw [if_neg h, e2, rgt_val h1 h hr s j hs this, valT]
  · intro h _ _ e g; rw [if_neg h, ← e, valT, told_self0 g (valT_w32 hr s hs)]
  · intro h _ _ e g; rw [if_neg h, ← e, told_selfA g (valT_w32 hr s hs)]
  · intro h _ _ _; rw [if_neg h, valT]
theorem anew_ok : ∀ t, okT t → okT (anewT t) := by
  intro t
  induction t using anewT.induct with
  | case1 a ih => intro h; rw [anewT]; exact mk_ok (by decide) (ih h) (fun e => absurd rfl e)
  | case2 op a b ih1 ih2 => intro h; rw [okT] at h; rw [anewT]; exact mk_ok h.1 (ih1 h.2.2.1) (fun _ => ih2 h.2.2.2)
  | case3 k => intro h; exact h
  | case4 w => intro h; exact h
  | case5 t h1 h2 h3 h4 => intro h; unfold anewT; split <;> first | exact h | exact absurd rfl (h1 _) | exact absurd rfl (h2 _ _ _)
theorem anew_val {r : List Int} (hr : okW r) : ∀ t, okT t → valT r (anewT t) = valT r t := by
  intro t
  induction t using anewT.induct with
  | case1 a ih => intro h; rw [anewT, mk_val (by decide) hr (anew_ok a h) (fun e => absurd rfl e), if_pos rfl, ih h, valT]
  | case2 op a b ih1 ih2 =>
    intro h
    rw [okT] at h
    rw [anewT, mk_val h.1 hr (anew_ok a h.2.2.1) (fun _ => anew_ok b h.2.2.2), if_neg h.2.1, ih1 h.2.2.1, ih2 h.2.2.2, valT]
  | case3 k => intro h; rw [anewT]
  | case4 w => intro h; rw [anewT]
  | case5 t h1 h2 h3 h4 => intro h; unfold anewT; split <;> first | rfl | exact absurd rfl (h1 _) | exact absurd rfl (h2 _ _ _)
/-- normal: no rule turns any of it -/
def nfT : Tr → Prop
  | .neg a => nfT a ∧ mkT 128 a (.num 0) = .neg a
  | .mulL op (.add a b) => nfT a ∧ nfT b ∧ mkT op a b = op2 op a b
  | .num _ => True
  | .var _ => True
  | _ => True
theorem nf_anew : ∀ t, nfT t → anewT t = t := by
  intro t
  induction t using anewT.induct with
  | case1 a ih => intro h; rw [nfT] at h; rw [anewT, ih h.1, h.2]
  | case2 op a b ih1 ih2 => intro h; rw [nfT] at h; rw [anewT, ih1 h.1, ih2 h.2.1, h.2.2]
  | case3 k => intro h; rw [anewT]
  | case4 w => intro h; rw [anewT]
  | case5 t h1 h2 h3 h4 => intro h; unfold anewT; split <;> first | rfl | exact absurd rfl (h1 _) | exact absurd rfl (h2 _ _ _)
theorem rgt_nf {op : Int} (h2 : op ≠ 128) : ∀ (t : Tr) (k : Int), nfT t → nmT t = none → nfT (rgtT op t k) := by
  intro t k
  induction t, k using rgtT.induct op with
  | case1 o x j k e => intro ht hk; rw [rgtT, if_pos e]; exact ht
  | case2 o x j k e1 e2 => intro ht hk; rw [rgtT, if_neg e1, if_pos e2]; trivial
  | case3 o x j k e1 e2 e3 => intro ht hk; rw [rgtT, if_neg e1, if_neg e2, if_pos e3]; trivial
  | case4 o x j k e1 e2 e3 e4 i e5 => intro ht hk; rw [rgtT, if_neg e1, if_neg e2, if_neg e3, if_pos e4, e5]; trivial
  | case5 o x j k e1 e2 e3 e4 e5 ih =>
    intro ht hk
    rw [rgtT, if_neg e1, if_neg e2, if_neg e3, if_pos e4, e5]
    rw [nfT] at ht
    exact ih ht.1 e5
  | case6 o x j k e1 e2 e3 e4 =>
    intro ht hk
    rw [rgtT, if_neg e1, if_neg e2, if_neg e3, if_neg e4]
    show nfT _ ∧ nfT _ ∧ _
    refine ⟨ht, trivial, ?_⟩
    rw [mkT_0n h2 (j := shK op k) hk rfl, rgtT, shK_twice, if_neg e1, if_neg e2, if_neg e3, if_neg e4]
  | case7 t k hn e => intro ht hk; rw [rgtT, if_pos e]; exact ht; exact hn
  | case8 t k hn e1 e2 => intro ht hk; rw [rgtT, if_neg e1, if_pos e2]; trivial; exact hn
  | case9 t k hn e1 e2 e3 => intro ht hk; rw [rgtT, if_neg e1, if_neg e2, if_pos e3]; trivial; exact hn
  | case10 t k hn e1 e2 e3 =>
    intro ht hk
    rw [rgtT, if_neg e1, if_neg e2, if_neg e3]
    · show nfT _ ∧ nfT _ ∧ _
      refine ⟨ht, trivial, ?_⟩
      rw [mkT_0n h2 (j := shK op k) hk rfl, rgtT, shK_twice, if_neg e1, if_neg e2, if_neg e3]
      exact hn
    · exact hn
theorem mk_nf {op : Int} (h1 : isOp op = true) {s t : Tr} (hs : nfT s) (ht : op ≠ 128 → nfT t) : nfT (mkT op s t) := by
  refine mkT_cases h1 s t ?_ ?_ ?_ ?_ ?_ ?_ ?_ ?_ ?_ ?_
  · intro _ i _; trivial
  · intro _ x e; rw [e, nfT] at hs; exact hs.1
  · intro h e1 e2; exact ⟨hs, by rw [mkT_neg, e1, e2]⟩
  · intro _ i j _ _; trivial
  · intro h i e e2 _; exact rgt_nf h t i (ht h) e2
  · intro h i e e2 e3
    refine ⟨hs, ht h, ?_⟩
    rw [mkT_n0 h (by rw [e]; rfl) e2, e3, if_neg (by simp)]
  · intro h j e1 e; exact rgt_nf h s j hs e1
  · intro _ _ _ _ _; trivial
  · intro _ _ _ _ _; exact hs
  · intro h e1 e2 g
    refine ⟨hs, ht h, ?_⟩
    rw [mkT_00 h e1 e2]
    by_cases e : s = t
    · have := g e
      rw [if_neg (by omega), if_neg (by omega)]
    · rw [eqT_no.2 e, if_neg (by simp), if_neg (by simp)]
theorem anew_nf : ∀ t, okT t → nfT (anewT t) := by
  intro t
  induction t using anewT.induct with
  | case1 a ih => intro h; rw [anewT]; exact mk_nf (by decide) (ih h) (fun e => absurd rfl e)
  | case2 op a b ih1 ih2 => intro h; rw [okT] at h; rw [anewT]; exact mk_nf h.1 (ih1 h.2.2.1) (fun _ => ih2 h.2.2.2)
  | case3 k => intro h; trivial
  | case4 w => intro h; trivial
  | case5 t h1 h2 h3 h4 => intro h; unfold okT at h; split at h <;> first | exact absurd rfl (h3 _) | exact absurd rfl (h4 _) | exact absurd rfl (h1 _) | exact absurd rfl (h2 _ _ _) | exact h.elim
theorem anew_twice (t : Tr) (h : okT t) : anewT (anewT t) = anewT t := nf_anew _ (anew_nf t h)
/-- what stands in a normal tree is normal -/
theorem nf_sub {s : Tr} : ∀ t, nfT t → subT s t → nfT s := by
  intro t
  induction t using anewT.induct with
  | case1 a ih => intro h hs; rw [subT] at hs; rcases hs with rfl | hs; exact h; rw [nfT] at h; exact ih h.1 hs
  | case2 op a b ih1 ih2 =>
    intro h hs
    rw [subT] at hs
    rcases hs with rfl | hs | hs
    · exact h
    · rw [nfT] at h; exact ih1 h.1 hs
    · rw [nfT] at h; exact ih2 h.2.1 hs
  | case3 k => intro h hs; rw [subT] at hs; rw [hs]; exact h
  | case4 w => intro h hs; rw [subT] at hs; rw [hs]; exact h
  | case5 t h1 h2 h3 h4 =>
    intro h hs
    unfold subT at hs
    split at hs
    · exact absurd rfl (h3 _)
    · exact absurd rfl (h4 _)
    · exact absurd rfl (h1 _)
    · exact absurd rfl (h2 _ _ _)
    · rw [hs]; exact h
theorem rgt_sz {op : Int} : ∀ (t : Tr) (k : Int), szT (rgtT op t k) ≤ szT t + 2 := by
  intro t k
  induction t, k using rgtT.induct op with
  | case1 o x j k e => rw [rgtT, if_pos e]; exact Nat.le_add_right _ _
  | case2 o x j k e1 e2 => rw [rgtT, if_neg e1, if_pos e2, show szT (.num 0) = 1 from rfl]; omega
  | case3 o x j k e1 e2 e3 => rw [rgtT, if_neg e1, if_neg e2, if_pos e3, show szT (.num 4294967295) = 1 from rfl]; omega
  | case4 o x j k e1 e2 e3 e4 i e5 => rw [rgtT, if_neg e1, if_neg e2, if_neg e3, if_pos e4, e5]; show 1 ≤ _; omega
  | case5 o x j k e1 e2 e3 e4 e5 ih =>
    rw [rgtT, if_neg e1, if_neg e2, if_neg e3, if_pos e4, e5]
    have : szT (.mulL o (.add x (.num j))) = 1 + szT x + 1 := rfl
    show szT (rgtT op x (told op j (shK op k))) ≤ _
    omega
  | case6 o x j k e1 e2 e3 e4 =>
    rw [rgtT, if_neg e1, if_neg e2, if_neg e3, if_neg e4]
    exact Nat.le_of_eq (show 1 + szT (op2 o x (.num j)) + 1 = szT (op2 o x (.num j)) + 2 by omega)
  | case7 t k hn e => rw [rgtT, if_pos e]; omega; exact hn
  | case8 t k hn e1 e2 => rw [rgtT, if_neg e1, if_pos e2, show szT (.num 0) = 1 from rfl]; omega; exact hn
  | case9 t k hn e1 e2 e3 => rw [rgtT, if_neg e1, if_neg e2, if_pos e3, show szT (.num 4294967295) = 1 from rfl]; omega; exact hn
  | case10 t k hn e1 e2 e3 => rw [rgtT, if_neg e1, if_neg e2, if_neg e3]; exact Nat.le_of_eq (show 1 + szT t + 1 = szT t + 2 by omega); exact hn
theorem mk_sz {op : Int} (h1 : isOp op = true) (s t : Tr) : szT (mkT op s t) ≤ 1 + szT s + (if op = 128 then 0 else szT t) := by
  have ps := szT_pos s
  have pt := szT_pos t
  refine mkT_cases (P := fun u => szT u ≤ 1 + szT s + (if op = 128 then 0 else szT t)) h1 s t ?_ ?_ ?_ ?_ ?_ ?_ ?_ ?_ ?_ ?_
  · intro h i e; show 1 ≤ _; omega
  · intro h x e; rw [e, show szT (.neg x) = 1 + szT x from rfl]; omega
  · intro h _ _; show 1 + szT s ≤ _; omega
  · intro h i j e1 e2; show 1 ≤ _; omega
  · intro h i e1 _ e3; have := rgt_sz (op := op) t i; rw [if_neg h, e1, show szT (.num i) = 1 from rfl]; omega
  · intro h i e1 _ _; rw [if_neg h]; exact Nat.le_refl _
  · intro h j _ e2; have := rgt_sz (op := op) s j; rw [if_neg h, e2, show szT (.num j) = 1 from rfl]; omega
  · intro h _ _ e g; show 1 ≤ _; omega
  · intro h _ _ e g; omega
  · intro h _ _ _; rw [if_neg h]; exact Nat.le_refl _
theorem anew_sz : ∀ t, okT t → szT (anewT t) ≤ szT t := by
  intro t
  induction t using anewT.induct with
  | case1 a ih => intro h; have := mk_sz (op := 128) (by decide) (anewT a) (.num 0); rw [if_pos rfl] at this; have := ih h; rw [anewT, szT]; omega
  | case2 op a b ih1 ih2 =>
    intro h
    rw [okT] at h
    have := mk_sz h.1 (anewT a) (anewT b)
    rw [if_neg h.2.1] at this
    have := ih1 h.2.2.1
    have := ih2 h.2.2.2
    rw [anewT, szT]; omega
  | case3 k => intro h; rw [anewT]; exact Nat.le_refl _
  | case4 w => intro h; rw [anewT]; exact Nat.le_refl _
  | case5 t h1 h2 h3 h4 => intro h; unfold okT at h; split at h <;> first | exact absurd rfl (h3 _) | exact absurd rfl (h4 _) | exact absurd rfl (h1 _) | exact absurd rfl (h2 _ _ _) | exact h.elim
theorem rgt_has {op : Int} {w : Nat} : ∀ (t : Tr) (k : Int), hasW w (rgtT op t k) → hasW w t := by
  intro t k
  induction t, k using rgtT.induct op with
  | case1 o x j k e => intro h; rw [rgtT, if_pos e] at h; exact h
  | case2 o x j k e1 e2 => intro h; rw [rgtT, if_neg e1, if_pos e2] at h; cases h
  | case3 o x j k e1 e2 e3 => intro h; rw [rgtT, if_neg e1, if_neg e2, if_pos e3] at h; cases h
  | case4 o x j k e1 e2 e3 e4 i e5 => intro h; rw [rgtT, if_neg e1, if_neg e2, if_neg e3, if_pos e4, e5] at h; cases h
  | case5 o x j k e1 e2 e3 e4 e5 ih => intro h; rw [rgtT, if_neg e1, if_neg e2, if_neg e3, if_pos e4, e5] at h; exact .inl (ih h)
  | case6 o x j k e1 e2 e3 e4 =>
    intro h
    rw [rgtT, if_neg e1, if_neg e2, if_neg e3, if_neg e4] at h
    rcases h with h | h
    · exact h
    · cases h
  | case7 t k hn e => intro h; rw [rgtT, if_pos e] at h; exact h; exact hn
  | case8 t k hn e1 e2 => intro h; rw [rgtT, if_neg e1, if_pos e2] at h; cases h; exact hn
  | case9 t k hn e1 e2 e3 => intro h; rw [rgtT, if_neg e1, if_neg e2, if_pos e3] at h; cases h; exact hn
  | case10 t k hn e1 e2 e3 =>
    intro h
    rw [rgtT, if_neg e1, if_neg e2, if_neg e3] at h
    · rcases h with h | h
      · exact h
      · cases h
    · exact hn
theorem mk_has {op : Int} (h1 : isOp op = true) {w : Nat} (s t : Tr) : hasW w (mkT op s t) → hasW w s ∨ (op ≠ 128 ∧ hasW w t) := by
  refine mkT_cases (P := fun u => hasW w u → hasW w s ∨ (op ≠ 128 ∧ hasW w t)) h1 s t ?_ ?_ ?_ ?_ ?_ ?_ ?_ ?_ ?_ ?_
  · intro h i e g; cases g
  · intro h x e g; rw [e]; exact .inl g
  · intro h _ _ g; exact .inl g
  · intro h i j e1 e2 g; cases g
  · intro h i e1 _ e3 g; exact .inr ⟨h, rgt_has t i g⟩
  · intro h i e1 _ _ g; rcases g with g | g; exact .inl g; exact .inr ⟨h, g⟩
  · intro h j _ e2 g; exact .inl (rgt_has s j g)
  · intro h _ _ e g g2; cases g2
  · intro h _ _ e g g2; exact .inl g2
  · intro h _ _ _ g; rcases g with g | g; exact .inl g; exact .inr ⟨h, g⟩
theorem anew_has {w : Nat} : ∀ t, okT t → hasW w (anewT t) → hasW w t := by
  intro t
  induction t using anewT.induct with
  | case1 a ih => intro h g; rw [anewT] at g; rcases mk_has (by decide) _ _ g with g | g; exact ih h g; exact absurd rfl g.1
  | case2 op a b ih1 ih2 =>
    intro h g
    rw [okT] at h
    rw [anewT] at g
    rcases mk_has h.1 _ _ g with g | g
    · exact .inl (ih1 h.2.2.1 g)
    · exact .inr (ih2 h.2.2.2 g.2)
  | case3 k => intro h g; rw [anewT] at g; exact g
  | case4 w => intro h g; rw [anewT] at g; exact g
  | case5 t h1 h2 h3 h4 => intro h; unfold okT at h; split at h <;> first | exact absurd rfl (h3 _) | exact absurd rfl (h4 _) | exact absurd rfl (h1 _) | exact absurd rfl (h2 _ _ _) | exact h.elim
/-- a term without words is a number, made anew -/
theorem anew_num : ∀ t, okT t → (∀ w, ¬ hasW w t) → ∃ k, anewT t = .num k := by
  intro t
  induction t using anewT.induct with
  | case1 a ih => intro h g; obtain ⟨k, hk⟩ := ih h g; exact ⟨told 128 k 0, by rw [anewT, hk, mkT_neg]; rfl⟩
  | case2 op a b ih1 ih2 =>
    intro h g
    rw [okT] at h
    obtain ⟨i, hi⟩ := ih1 h.2.2.1 (fun w e => g w (.inl e))
    obtain ⟨j, hj⟩ := ih2 h.2.2.2 (fun w e => g w (.inr e))
    exact ⟨told op i j, by rw [anewT, hi, hj]; exact mkT_nn h.2.1 rfl rfl⟩
  | case3 k => intro h g; exact ⟨k, by rw [anewT]⟩
  | case4 w => intro h g; exact absurd rfl (g w)
  | case5 t h1 h2 h3 h4 => intro h; unfold okT at h; split at h <;> first | exact absurd rfl (h3 _) | exact absurd rfl (h4 _) | exact absurd rfl (h1 _) | exact absurd rfl (h2 _ _ _) | exact h.elim
/-- a number and a term: one term in either order -/
theorem mk_turns {op : Int} (h : trn op = true) {s : Tr} (hs : okT s) {k : Int} (hk : W32 k) : mkT op s (.num k) = mkT op (.num k) s := by
  have h2 : op ≠ 128 := by have := trn_iff.1 h; omega
  cases e : nmT s with
  | some i =>
    rw [nmT_some e, okT] at hs
    rw [mkT_nn h2 e (j := k) rfl, mkT_nn h2 (i := k) rfl e, told_comm h hs hk]
  | none => rw [mkT_0n h2 e (j := k) rfl, mkT_n0 h2 (i := k) rfl e, if_pos h]
/-- of the same op, with a number on the right: the left one, and the number -/
def chn (op : Int) : Tr → Option (Tr × Int)
  | .mulL o (.add x (.num j)) => if trn op = true ∧ o = op then some (x, j) else none
  | _ => none
theorem rgtT_eq (op : Int) (t : Tr) (k : Int) : rgtT op t k = if idleB op (shK op k) = true then t else if zeroB op (shK op k) = true then .num 0 else if fullB op (shK op k) = true then .num 4294967295
    else (match chn op t with
      | some (x, j) => (match nmT x with
        | some i => .num (told op i (told op j (shK op k)))
        | none => rgtT op x (told op j (shK op k)))
      | none => op2 op t (.num (shK op k))) := by
  cases t, k using rgtT.fun_cases op with
  | case1 o x j k e => rw [rgtT, if_pos e, if_pos e]
  | case2 o x j k e1 e2 => rw [rgtT, if_neg e1, if_neg e1, if_pos e2, if_pos e2]
  | case3 o x j k e1 e2 e3 => rw [rgtT, if_neg e1, if_neg e1, if_neg e2, if_neg e2, if_pos e3, if_pos e3]
  | case4 o x j k e1 e2 e3 e4 i e5 => rw [rgtT, if_neg e1, if_neg e1, if_neg e2, if_neg e2, if_neg e3, if_neg e3, chn, if_pos e4, if_pos e4]
  | case5 o x j k e1 e2 e3 e4 e5 => rw [rgtT, if_neg e1, if_neg e1, if_neg e2, if_neg e2, if_neg e3, if_neg e3, chn, if_pos e4, if_pos e4]
  | case6 o x j k e1 e2 e3 e4 => rw [rgtT, if_neg e1, if_neg e1, if_neg e2, if_neg e2, if_neg e3, if_neg e3, chn, if_neg e4, if_neg e4]
  | case7 t k hn e => rw [rgtT, if_pos e, if_pos e]; exact hn
  | case8 t k hn e1 e2 => rw [rgtT, if_neg e1, if_neg e1, if_pos e2, if_pos e2]; exact hn
  | case9 t k hn e1 e2 e3 => rw [rgtT, if_neg e1, if_neg e1, if_neg e2, if_neg e2, if_pos e3, if_pos e3]; exact hn
  | case10 t k hn e1 e2 e3 =>
    rw [rgtT, if_neg e1, if_neg e1, if_neg e2, if_neg e2, if_neg e3, if_neg e3]
    · have : chn op t = none := by
        unfold chn
        split
        · exact absurd rfl (hn _ _ _)
        · rfl
      rw [this]
    · exact hn
/-- of a row: which node is a number, and which is of the same op with a number on the right -/
theorem nm_row {l : List N} (hl : Row l) {a : Nat} (ha : a < l.length) : nmT (tr l a) = if (nat0 l a).1 = 1 then some (nat0 l a).2.2.2 else none := by
  rw [tr_row hl ha]
  rcases may_ok (hl.2 a ha) with ⟨h1, _⟩ | ⟨h1, _⟩ | ⟨h1, _⟩ | ⟨h1, h2, _⟩
  · rw [trN_num h1, if_pos h1]; rfl
  · rw [trN_word h1, if_neg (by omega)]; rfl
  · rw [trN_neg h1, if_neg (by omega)]; rfl
  · have := isA_12 h1
    rw [trN_two h1 h2, if_neg (by omega)]; rfl
theorem ng_row {l : List N} (hl : Row l) {a : Nat} (ha : a < l.length) : ngT (tr l a) = if (nat0 l a).1 = 384 then some (tr l (nat0 l a).2.1.toNat) else none := by
  rw [tr_row hl ha]
  rcases may_ok (hl.2 a ha) with ⟨h1, _⟩ | ⟨h1, _⟩ | ⟨h1, _⟩ | ⟨h1, h2, _⟩
  · rw [trN_num h1, if_neg (by omega)]; rfl
  · rw [trN_word h1, if_neg (by omega)]; rfl
  · rw [trN_neg h1, if_pos h1]; rfl
  · rw [trN_two h1 h2, if_neg h2]; rfl
theorem chn_row {l : List N} (hl : Row l) {a : Nat} (ha : a < l.length) {op : Int} (h2 : op ≠ 128) : chn op (tr l a) =
    if trn op = true ∧ (nat0 l a).1 = 256 + op ∧ (nat0 l (nat0 l a).2.2.1.toNat).1 = 1 then some (tr l (nat0 l a).2.1.toNat, (nat0 l (nat0 l a).2.2.1.toNat).2.2.2) else none := by
  rw [tr_row hl ha]
  have mi := hl.2 a ha
  rcases may_ok mi with ⟨h1, _⟩ | ⟨h1, _⟩ | ⟨h1, _⟩ | ⟨h1, h3, _, _, _, q1, q2⟩
  · rw [trN_num h1, if_neg (by rintro ⟨g1, g2, _⟩; have := trn_iff.1 g1; omega)]; rfl
  · rw [trN_word h1, if_neg (by rintro ⟨g1, g2, _⟩; have := trn_iff.1 g1; omega)]; rfl
  · rw [trN_neg h1, if_neg (by rintro ⟨g1, g2, _⟩; have := trn_iff.1 g1; omega)]; rfl
  · have hb : (nat0 l a).2.2.1.toNat < l.length := by omega
    have hn := nm_row hl hb
    rw [trN_two h1 h3]
    generalize tr l (nat0 l a).2.2.1.toNat = u at *
    generalize tr l (nat0 l a).2.1.toNat = v at *
    by_cases g : (nat0 l (nat0 l a).2.2.1.toNat).1 = 1
    · rw [if_pos g] at hn
      rw [nmT_some hn, chn]
      by_cases g2 : trn op = true ∧ (nat0 l a).1 - 256 = op
      · rw [if_pos g2, if_pos ⟨g2.1, by omega, g⟩]
      · rw [if_neg g2, if_neg (by rintro ⟨g3, g4, _⟩; exact g2 ⟨g3, by omega⟩)]
    · rw [if_neg g] at hn
      rw [if_neg (by rintro ⟨_, _, g3⟩; exact g g3)]
      unfold chn
      split
      · rename_i o x j e
        injection e with e1 e2
        injection e2 with e2 e3
        rw [e3] at hn; cases hn
      · rfl
/-- how many numbers stand on the right of the op, one behind the other -/
def clT (op : Int) : Tr → Nat
  | .mulL o (.add x (.num j)) => if trn op = true ∧ o = op then 1 + clT op x else 0
  | _ => 0
theorem clT_on {op : Int} {t x : Tr} {j : Int} (h : chn op t = some (x, j)) : clT op t = 1 + clT op x := by
  unfold chn at h
  split at h
  · split at h
    · rename_i g
      injection h with h
      injection h with h1 h2
      subst h1
      rw [clT, if_pos g]
    · cases h
  · cases h
theorem clT_flat {op : Int} {t : Tr} (h : chn op t = none) : clT op t = 0 := by
  unfold clT
  split
  · rw [chn] at h
    split at h
    · cases h
    · rename_i g; rw [if_neg g]
  · rfl
/-- no more than there are places ahead -/
theorem clT_le {l : List N} (hl : Row l) {op : Int} (h2 : op ≠ 128) : ∀ a, a < l.length → clT op (tr l a) ≤ a := by
  intro a
  induction a using Nat.strongRecOn with
  | _ a ih =>
    intro ha
    have hc := chn_row hl ha h2
    split at hc
    · rename_i g
      rw [clT_on hc]
      have ht := trn_iff.1 g.1
      have := may_ok (hl.2 a ha)
      have := ih (nat0 l a).2.1.toNat (by omega) (by omega)
      omega
    · rw [clT_flat hc]; omega
theorem chn_sz {op : Int} {t x : Tr} {j : Int} (h : chn op t = some (x, j)) : szT t = szT x + 2 ∧ t = op2 op x (.num j) ∧ trn op = true := by
  unfold chn at h
  split at h
  · split at h
    · rename_i g
      injection h with h
      injection h with h1 h3
      subst h1 h3
      obtain ⟨g1, rfl⟩ := g
      refine ⟨?_, rfl, g1⟩
      rw [szT]; rw [show szT (.num _) = 1 from rfl]; omega
    · cases h
  · cases h
/-- a normal tree has one at most -/
theorem clT_nf {op : Int} {t : Tr} (h : nfT t) (h2 : op ≠ 128) : clT op t ≤ 1 := by
  cases hc : chn op t with
  | none => rw [clT_flat hc]; omega
  | some q =>
    obtain ⟨x, j⟩ := q
    rw [clT_on hc]
    obtain ⟨_, rfl, htr⟩ := chn_sz hc
    rw [nfT] at h
    cases hc2 : chn op x with
    | none => rw [clT_flat hc2]; omega
    | some q =>
      obtain ⟨y, i⟩ := q
      exfalso
      obtain ⟨hsz, hx, _⟩ := chn_sz hc2
      have hnx : nmT x = none := by rw [hx]; rfl
      have hm := h.2.2
      rw [mkT_0n h2 hnx (j := j) rfl, rgtT_eq, hc2] at hm
      have hbig : szT (op2 op x (.num j)) = szT y + 4 := by
        show 1 + szT x + 1 = _
        omega
      have py := szT_pos y
      have key : ∀ u, szT u ≤ szT y + 2 → u = op2 op x (.num j) → False := fun u hu e => by rw [e] at hu; omega
      split at hm
      · exact key _ (by omega) hm
      · split at hm
        · cases hm
        · split at hm
          · cases hm
          · simp only at hm
            split at hm
            · cases hm
            · exact key _ (rgt_sz _ _) hm
/-- a row that has each node once, made longer: p is the place of a tree -/
structure Made (l m : List N) (t : Tr) (p : Nat) : Prop where
  pre : ∃ E, m = l ++ E
  row : Row m
  once : Once m
  ok : ∀ x ∈ m, okN x
  lt : p < m.length
  tr : tr m p = t
theorem Made.len {l m : List N} {t : Tr} {p : Nat} (h : Made l m t p) : l.length ≤ m.length := by
  obtain ⟨E, rfl⟩ := h.pre; simp
theorem Made.keep {l m : List N} {t : Tr} {p : Nat} (h : Made l m t p) {i : Nat} (hi : i < l.length) : nat0 m i = nat0 l i ∧ TM.tr m i = TM.tr l i := by
  obtain ⟨E, rfl⟩ := h.pre
  exact ⟨nat0_append hi, tr_append hi⟩
theorem Made.here {l : List N} (h1 : Row l) (h2 : Once l) (h3 : ∀ x ∈ l, okN x) {p : Nat} (hp : p < l.length) : Made l l (TM.tr l p) p := ⟨⟨[], by simp⟩, h1, h2, h3, hp, rfl⟩
theorem Made.trans {l m n : List N} {t u : Tr} {p q : Nat} (h : Made l m t p) (h' : Made m n u q) : Made l n u q := by
  obtain ⟨E, rfl⟩ := h.pre
  obtain ⟨F, hF⟩ := h'.pre
  exact ⟨⟨E ++ F, by rw [hF, List.append_assoc]⟩, h'.row, h'.once, h'.ok, h'.lt, h'.tr⟩
theorem Made.put {l : List N} (h1 : Row l) (h2 : Once l) (h3 : ∀ x ∈ l, okN x) (hn : l.length < 65536) {x : N} (hx : okN x) (hm : may x l.length = true) {m : List N} {p : Nat} (hp : putN l x = (m, p)) : Made l m (trN x (TM.tr l)) p := by
  have e1 := putN_row h1 hm hn
  have e2 := putN_once h2 x
  have e3 := putN_ok h3 hx
  obtain ⟨e4, e5⟩ := putN_at l x
  have pre : ∃ E, (putN l x).1 = l ++ E := by
    cases e : fnd l x with
    | none => rw [putN_new e]; exact ⟨[x], rfl⟩
    | some i => rw [putN_old e]; exact ⟨[], by simp⟩
  rw [hp] at e1 e2 e3 e4 e5 pre
  refine ⟨pre, e1, e2, e3, e4, ?_⟩
  obtain ⟨E, hE⟩ := pre
  rw [tr_row e1 e4, e5]
  have hE' : m = l ++ E := hE
  exact trN_congr hm fun j hj => by rw [hE']; exact tr_append (parts_lt hm hj)
theorem may_number (k : Int) (i : Nat) : may (1, 0, 0, k) i = true := by rw [may_num rfl]; rfl
theorem ok_number {k : Int} (h : W32 k) : okN (1, 0, 0, k) := ⟨by dsimp only; omega, by dsimp only; omega, by dsimp only; omega, h⟩
/-- where a term that is put into a pool stands: where that pool has its tree -/
theorem plc_of_tr {P l : List N} (hl : Row l) (ok : ∀ x ∈ l, okN x) (hP : Row P) (hO : Once P) (okP : ∀ x ∈ P, okN x) (hn : P.length + l.length ≤ 65536) {i j : Nat} (hi : i < l.length) (hj : j < P.length) : plc P l i = j ↔ tr l i = tr P j := by
  obtain ⟨h1, h2, h3, h4, h5, h6, h7⟩ := pl_inv hl ok hP hO okP hn l.length (Nat.le_refl _)
  have e1 := into_tr hl ok hP hO okP hn (Nat.le_refl _) i hi
  have e2 : tr (pl P l l.length) j = tr P j := tr_keep fun q hq => h6 q (by omega)
  constructor
  · intro h; rw [← e1, h, e2]
  · intro h
    exact tr_inj h2 h4 h3 _ _ (h5 i hi).1 (by omega) (by rw [e1, e2, h])
end Go.Proofs.Ytkeigicobcjleab.TM
