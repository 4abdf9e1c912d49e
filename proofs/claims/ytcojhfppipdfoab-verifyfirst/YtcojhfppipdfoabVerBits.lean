/-
  Which words are written for sure, as bits: plain mathematics; and a row of cells that is read and stored into.
-/
import Derived.Test.YtcojhfppipdfoabVerAlone
namespace Go.Proofs.Ytcojhfppipdfoab.M
/-- the number that has the bits that f tells, below n -/
def mkb (f : Nat → Bool) : Nat → Nat
  | 0 => 0
  | n + 1 => mkb f n ||| (if f n then 2 ^ n else 0)
theorem mkb_bit (f : Nat → Bool) (n w : Nat) : (mkb f n).testBit w = (decide (w < n) && f w) := by
  induction n with
  | zero => simp [mkb]
  | succ n ih =>
    rw [mkb, Nat.testBit_or, ih]
    by_cases h : f n = true
    · rw [if_pos h, Nat.testBit_two_pow]
      by_cases e : n = w
      · subst e; simp [h]
      · have : decide (w < n + 1) = decide (w < n) := decide_eq_decide.2 (by omega)
        rw [this]; simp [e]
    · rw [if_neg h, Nat.zero_testBit, Bool.or_false]
      by_cases e : n = w
      · subst e; simp at h; simp [h]
      · have : decide (w < n + 1) = decide (w < n) := decide_eq_decide.2 (by omega)
        rw [this]
theorem mkb_lt (f : Nat → Bool) (n : Nat) : mkb f n < 2 ^ n := Nat.lt_pow_two_of_testBit _ fun i hi => by rw [mkb_bit]; simp; omega
theorem mkb_eq {f : Nat → Bool} {n x : Nat} (hx : x < 2 ^ n) (h : ∀ w, w < n → x.testBit w = f w) : mkb f n = x := by
  apply Nat.eq_of_testBit_eq
  intro w
  rw [mkb_bit]
  by_cases hw : w < n
  · simp [hw, h w hw]
  · rw [Nat.testBit_lt_two_pow (Nat.lt_of_lt_of_le hx (Nat.pow_le_pow_right (by omega) (by omega)))]; simp [hw]
/-- behind k rounds: the words that are written for sure ahead of place j, as far as is known -/
def wrK (l : List I) (k j : Nat) : Nat := mkb (fun w => !(outAt l w k).getD j false) 16
/-- in the end -/
def wr (l : List I) (j : Nat) : Nat := mkb (fun w => !bare l w j) 16
theorem wr_eq (l : List I) (j : Nat) : wrK l l.length j = wr l j := rfl
theorem wrK_lt (l : List I) (k j : Nat) : wrK l k j < 65536 := mkb_lt _ 16
theorem wr_lt (l : List I) (j : Nat) : wr l j < 65536 := mkb_lt _ 16
theorem wr_bit (l : List I) (j w : Nat) (h : w < 16) : (wr l j).testBit w = !bare l w j := by unfold wr; rw [mkb_bit]; simp [h]
theorem wrK_done {l : List I} {k : Nat} (h : k ≤ l.length) : wrK l k k = wr l k := by
  unfold wrK wr
  congr 1
  funext w
  rw [bare_at l w h]
theorem wrK_zero {l : List I} {j : Nat} (h : j < l.length) : wrK l 0 j = if j = 0 then 0 else 65535 := by
  apply mkb_eq
  · split <;> omega
  · intro w hw
    have e : (outAt l w 0).getD j false = decide (j = 0) := by
      rw [outAt, set_getD]
      rw [List.getD_eq_getElem?_getD, List.getElem?_replicate, if_pos h, List.length_replicate]
      simp [h, eq_comm]
    rw [e]
    split
    · rename_i h0; simp [h0]
    · rename_i h0
      rw [show (65535 : Nat) = 2 ^ 16 - 1 from rfl, Nat.testBit_two_pow_sub_one]
      simp [h0, hw]
def stN (x : I) : Nat := if kind x.1 = 8 ∨ kind x.1 = 9 then 2 ^ x.2.2.2.toNat else 0
theorem stN_lt {x : I} (h : kind x.1 = 8 ∨ kind x.1 = 9 → x.2.2.2 < 16) : stN x < 65536 := by
  unfold stN
  split
  · rename_i hk
    exact Nat.lt_of_lt_of_le (Nat.pow_lt_pow_right (by omega) (show x.2.2.2.toNat < 16 from by have := h hk; omega)) (by omega)
  · omega
theorem stN_bit {x : I} (ok : okI x) (w : Nat) : (stN x).testBit w = wrW w x := by
  obtain ⟨c, t, f, k⟩ := x
  have h0 : 0 ≤ k := ok.2.2.2.1
  unfold stN wrW
  simp only
  split
  · rename_i hk
    rw [Nat.testBit_two_pow]
    have e1 : (kind c == 8 || kind c == 9) = true := by simpa using hk
    rw [e1, Bool.true_and]
    rw [show (k == (w : Int)) = decide (k.toNat = w) from ?_]
    rw [Bool.eq_iff_iff]; simp; omega
  · rename_i hk
    have e1 : (kind c == 8 || kind c == 9) = false := by simpa using hk
    rw [e1]; simp
theorem loc_st {n i : Nat} {c t f k : Int} (h : loc n i (c, t, f, k) = 0) : kind c = 8 ∨ kind c = 9 → k < 16 := by
  intro hk
  rw [loc4 (by omega)] at h
  unfold scE at h
  split at h <;> omega
theorem loc_ld {n i : Nat} {c t f k : Int} (h : loc n i (c, t, f, k) = 0) : kind c = 4 ∨ kind c = 6 → k < 16 := by
  intro hk
  rw [loc4 (by omega)] at h
  unfold scE at h
  split at h <;> omega
theorem loc_ja {n i : Nat} {c t f k : Int} (h : loc n i (c, t, f, k) = 0) (hk : kind c = 11) : (i : Int) + 1 + k < n := by
  rw [loc11 hk] at h
  unfold jpE at h
  split at h <;> omega
theorem loc_jif {n i : Nat} {c t f k : Int} (h : loc n i (c, t, f, k) = 0) (hk : kind c = 12) : (i : Int) + 1 + t < n ∧ (i : Int) + 1 + f < n := by
  unfold loc at h
  simp only at h
  rw [if_neg (by omega), if_neg (by omega), if_neg (by omega), if_neg (by omega), if_neg (by omega), if_pos hk] at h
  split at h <;> omega
theorem stW_stN {c t f k : Int} : stW c k = ((stN (c, t, f, k) : Nat) : Int) := by
  unfold stW stN bitI
  simp only
  split <;> simp
theorem nxt13 {i : Nat} {c t f k : Int} (h : kind c = 13 ∨ kind c = 14) : nxt i (c, t, f, k) = [] := by
  unfold nxt; simp only; rw [if_neg (by omega), if_neg (by omega), if_pos h]
theorem nxt11 {i d : Nat} {c t f : Int} (h : kind c = 11) : nxt i (c, t, f, (d : Int)) = [i + 1 + d] := by
  unfold nxt; simp only; rw [if_pos h]; simp
theorem nxt12 {i t f : Nat} {c k : Int} (h : kind c = 12) : nxt i (c, (t : Int), (f : Int), k) = [i + 1 + t, i + 1 + f] := by
  unfold nxt; simp only; rw [if_neg (by omega), if_pos h]; simp
theorem nxtE {i : Nat} {c t f k : Int} (h : kind c ≠ 11 ∧ kind c ≠ 12 ∧ kind c ≠ 13 ∧ kind c ≠ 14) : nxt i (c, t, f, k) = [i + 1] := by
  unfold nxt; simp only; rw [if_neg (by omega), if_neg (by omega), if_neg (by omega)]
/-- a round -/
theorem wrK_succ {l : List I} {k j : Nat} (hk : k < l.length) (hj : j < l.length) (ok : okI l[k]) :
    wrK l (k + 1) j = if j ∈ nxt k l[k] then wrK l k j &&& (wrK l k k ||| stN l[k]) else wrK l k j := by
  apply mkb_eq
  · split
    · exact Nat.lt_of_le_of_lt Nat.and_le_left (wrK_lt l k j)
    · exact wrK_lt l k j
  · intro w hw16
    have hO := outAt_succ l w k j
    have b1 : (wrK l k j).testBit w = !(outAt l w k).getD j false := by unfold wrK; rw [mkb_bit]; simp [hw16]
    have b2 : (wrK l k k).testBit w = !(outAt l w k).getD k false := by unfold wrK; rw [mkb_bit]; simp [hw16]
    split
    · rename_i hm
      rw [Nat.testBit_and, Nat.testBit_or, b1, b2, stN_bit ok]
      rw [Bool.eq_iff_iff]
      have : ((!(outAt l w (k + 1)).getD j false) = true) ↔ ¬ ((outAt l w (k + 1)).getD j false = true) := by simp
      rw [this, hO]
      constructor
      · rintro h (h1 | ⟨_, h1, h2, _⟩)
        · rw [h1] at h; simp at h
        · rw [h1, h2] at h; simp at h
      · intro h
        cases h1 : (outAt l w k).getD j false with
        | true => exact absurd (Or.inl h1) h
        | false =>
          cases h2 : (outAt l w k).getD k false with
          | false => rfl
          | true =>
            cases h3 : wrW w l[k] with
            | true => rfl
            | false => exact absurd (Or.inr ⟨hk, h2, h3, hm, hj⟩) h
    · rename_i hm
      rw [b1]
      congr 1
      rw [Bool.eq_iff_iff, hO]
      constructor
      · exact Or.inl
      · rintro (h1 | ⟨_, _, _, h1, _⟩)
        · exact h1
        · exact absurd h1 hm
end Go.Proofs.Ytcojhfppipdfoab.M
namespace Go.Proofs.Ytcojhfppipdfoab.B
open Go.ChangeShapes Go.WideShapes Go.ChangeAt Go.RowKit
set_option linter.unusedVariables false

/-- a row of n cells that may be read and stored into -/
structure Row (W : World) (g n : Nat) (V : Nat → Value) : Prop where
  lt : g < W.heap.size
  cell : ∀ j, j < n → W.cell? ⟨g, j, none⟩ = some (V j)
  froz : ∀ j, j < n → W.frozen? ⟨g, j, none⟩ = false
section
variable {W W' : World} {g n : Nat} {V U : Nat → Value}
theorem Row.far {B : Nat} (h : Row W g n V) (hb : Below B W W') (hg : g < B) : Row W' g n V :=
  ⟨Nat.lt_of_lt_of_le h.lt hb.size, fun j hj => (hb.cell (p := ⟨g, j, none⟩) hg).trans (h.cell j hj), fun j hj => by
    have e := hb.block g hg
    have := h.froz j hj
    unfold World.frozen? at this ⊢
    rw [e]; exact this⟩
theorem Row.below (h : Row W g n V) (hb : Below W.heap.size W W') : Row W' g n V := h.far hb h.lt
theorem Row.congr (h : Row W g n V) (e : ∀ j, j < n → V j = U j) : Row W g n U := ⟨h.lt, fun j hj => by rw [← e j hj]; exact h.cell j hj, h.froz⟩
theorem Row.drewN (h : Row W g n V) (q : Nat) : Row (W.drewN q) g n V := ⟨h.lt, h.cell, h.froz⟩
theorem Row.set (h : Row W g n V) (j : Nat) (hj : j < n) (v : Value) : Row (W.setCell ⟨g, j, none⟩ v) g n (fun i => if i = j then v else V i) :=
  ⟨by have := h.lt; simpa using this, fun i hi => by
    by_cases e : i = j
    · subst e; rw [if_pos rfl]; exact World.cell?_setCell_same _ _ _ (h.cell i hi)
    · rw [if_neg e, World.cell?_setCell_other _ _ _ _ (by intro x; injection x with _ x; exact e x.symm)]; exact h.cell i hi, fun i hi => by rw [World.frozen?_setCell]; exact h.froz i hi⟩
theorem Row.other (h : Row W g n V) (c k : Nat) (v : Value) (hne : c ≠ g) : Row (W.setCell ⟨c, k, none⟩ v) g n V :=
  ⟨by have := h.lt; simpa using this, fun i hi => by rw [World.cell?_setCell_far _ _ _ _ (by simpa using hne)]; exact h.cell i hi, fun i hi => by rw [World.frozen?_setCell]; exact h.froz i hi⟩
theorem Row.of_own {base e : Nat} {cap : Nat} {xs : List Value} (h : W.ownsRow base e 1 (.slice (some ⟨g, 0, none⟩) n cap) n xs) (hv : ∀ j, j < n → xs[j]? = some (V j)) (hg : g < W.heap.size) : Row W g n V :=
  ⟨hg, fun j hj => by rw [h.cellAt j (by omega)]; exact hv j hj, fun j _ => h.frozenAt j⟩
end
theorem made_get (z : Value) (n j : Nat) (h : j < n) : (madeCells #[z] n).toList[j]? = some z := by
  simp [madeCells, h, Nat.mod_one]
theorem info34 : (Try.prog.info? 29).map (fun i => (i.zero, i.size, i.bytes)) = some (some (.int .u16 0), 1, 2) := by kernel_rfl
end Go.Proofs.Ytcojhfppipdfoab.B
