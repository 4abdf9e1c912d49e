/-
  Plain mathematics of a record: sixteen words, its fields, its bytes.
-/
import Derived.Test.YtkeigicobcjleabRows
import Derived.WalkKit
import Derived.ProofKit
import Derived.OpenShut
import Derived.WalkLawsBesides
import Derived.Laws.Shifts
import Derived.Laws.BitsAllLaws
import Derived.Deep.WholeRow
import Derived.Deep.QuietTactic
import Derived.BigQuiet
import Derived.Outline
import Derived.Deep.RegionHeldLaw
import Derived.StillTailTactics
import Derived.Laws.CopyOwn
import Derived.Laws.ResultCell
import Derived.Carry
namespace Go.Proofs.Ytkeigicobcjleab.R

def okR (l : List Int) : Prop := l.length = 16 ∧ ∀ i, 0 ≤ l.getD i 0 ∧ l.getD i 0 < 4294967296
def at_ (l : List Int) (i : Nat) : Int := l.getD i 0
theorem at_bd {l : List Int} (ok : okR l) (i : Nat) : 0 ≤ at_ l i ∧ at_ l i < 4294967296 := ok.2 i
def zero : List Int := List.replicate 16 0
theorem at_zero (i : Nat) : at_ zero i = 0 := by
  unfold at_ zero
  rw [List.getD_eq_getElem?_getD, List.getElem?_replicate]
  split <;> rfl
theorem ok_zero : okR zero := ⟨rfl, fun i => by have := at_zero i; unfold at_ at this; omega⟩
theorem at_set (l : List Int) (h : l.length = 16) (i j : Nat) (v : Int) (hi : i < 16) : at_ (l.set i v) j = if j = i then v else at_ l j := by
  unfold at_
  simp only [List.getD_eq_getElem?_getD, List.getElem?_set]
  by_cases e : i = j
  · subst e; simp [h, hi]
  · simp [e, Ne.symm e]
theorem ok_set {l : List Int} (ok : okR l) (i : Nat) (v : Int) (hi : i < 16) (hv : 0 ≤ v ∧ v < 4294967296) : okR (l.set i v) := by
  refine ⟨by rw [List.length_set]; exact ok.1, fun j => ?_⟩
  have := at_set l ok.1 i j v hi
  unfold at_ at this
  rw [this]
  split
  · exact hv
  · exact ok.2 j
theorem ext16 {l m : List Int} (hl : l.length = 16) (hm : m.length = 16) (h : ∀ i, i < 16 → at_ l i = at_ m i) : l = m := by
  apply List.ext_getElem (by omega)
  intro i h1 h2
  have := h i (by omega)
  unfold at_ at this
  simpa [List.getD_eq_getElem?_getD, List.getElem?_eq_getElem h1, List.getElem?_eq_getElem h2] using this

def isL (n : Int) : Bool := decide (n < 64 ∧ n % 4 = 0)
def load (l : List Int) (n : Int) : Int := if isL n = true then at_ l (n / 4).toNat else 0
def isF (f : Int) : Bool := decide (0 ≤ f ∧ f ≤ 8)
def place (f : Int) : Int := if f < 0 ∨ 8 < f then -1 else if f < 2 then f else 2 * f - 2
def width (f : Int) : Int := if f < 0 ∨ 8 < f then 0 else if f < 2 then 32 else 64
def ofw (n : Int) : Int := if n < 0 ∨ 16 ≤ n then -1 else if n < 2 then n else 2 + (n - 2) / 2
def hiw (n : Int) : Bool := if n < 0 ∨ 16 ≤ n then false else if n < 2 then false else decide ((n - 2) % 2 = 1)
def field (l : List Int) (f : Int) : Int :=
  if f < 0 ∨ 8 < f then 0 else if f < 2 then at_ l f.toNat else at_ l (2 * f - 2).toNat + 4294967296 * at_ l (2 * f - 1).toNat
def fits (f v : Int) : Bool := decide ((0 ≤ f ∧ f ≤ 8) ∧ (2 ≤ f ∨ v < 4294967296))
def with_ (l : List Int) (f v : Int) : List Int :=
  if fits f v = true then (if f < 2 then l.set f.toNat v else (l.set (2 * f - 2).toNat (v % 4294967296)).set (2 * f - 1).toNat (v / 4294967296)) else zero
theorem ok_with {l : List Int} (ok : okR l) (f v : Int) (hv : 0 ≤ v ∧ v < 18446744073709551616) : okR (with_ l f v) := by
  unfold with_
  split
  · rename_i h
    unfold fits at h
    have h' := of_decide_eq_true h
    split
    · exact ok_set ok _ _ (by omega) (by omega)
    · exact ok_set (ok_set ok _ _ (by omega) (by omega)) _ _ (by omega) (by omega)
  · exact ok_zero
theorem field_bd {l : List Int} (ok : okR l) (f : Int) : 0 ≤ field l f ∧ field l f < 18446744073709551616 := by
  have h1 := at_bd ok f.toNat
  have h2 := at_bd ok (2 * f - 2).toNat
  have h3 := at_bd ok (2 * f - 1).toNat
  unfold field
  split
  · omega
  · split <;> omega
theorem field_fits {l : List Int} (ok : okR l) (f : Int) (h : isF f = true) : fits f (field l f) = true := by
  have h' := of_decide_eq_true (show decide (0 ≤ f ∧ f ≤ 8) = true from h)
  have h1 := at_bd ok f.toNat
  unfold fits field
  apply decide_eq_true
  refine ⟨h', ?_⟩
  rw [if_neg (by omega)]
  by_cases e : f < 2
  · rw [if_pos e]; omega
  · omega
theorem place_lt {f : Int} (h0 : 0 ≤ f) (h : f < 2) : place f = f := by unfold place; rw [if_neg (by omega), if_pos h]
theorem place_ge {f : Int} (h : 2 ≤ f) (h8 : f ≤ 8) : place f = 2 * f - 2 := by unfold place; rw [if_neg (by omega), if_neg (by omega)]
theorem fits_iff {f v : Int} : fits f v = true ↔ (0 ≤ f ∧ f ≤ 8) ∧ (2 ≤ f ∨ v < 4294967296) := by unfold fits; exact decide_eq_true_iff
/-- the words of a record in which a field was set -/
theorem at_with {l : List Int} (ok : okR l) (f v : Int) (h0 : 0 ≤ v) (h : fits f v = true) (j : Nat) : at_ (with_ l f v) j =
    if (j : Int) = place f then v % 4294967296 else if 2 ≤ f ∧ (j : Int) = place f + 1 then v / 4294967296 else at_ l j := by
  have h' := fits_iff.1 h
  unfold with_
  rw [if_pos h]
  by_cases e : f < 2
  · have hv : v % 4294967296 = v := by omega
    rw [if_pos e, place_lt h'.1.1 e, at_set l ok.1 _ _ _ (by omega), hv]
    by_cases e2 : j = f.toNat
    · rw [if_pos e2, if_pos (by omega)]
    · rw [if_neg e2, if_neg (by omega), if_neg (by omega)]
  · rw [if_neg e, place_ge (by omega) h'.1.2, at_set _ (by rw [List.length_set]; exact ok.1) _ _ _ (by omega), at_set l ok.1 _ _ _ (by omega)]
    by_cases e2 : j = (2 * f - 1).toNat
    · rw [if_pos e2, if_neg (by omega), if_pos (by omega)]
    · rw [if_neg e2]
      by_cases e3 : j = (2 * f - 2).toNat
      · rw [if_pos e3, if_pos (by omega)]
      · rw [if_neg e3, if_neg (by omega), if_neg (by omega)]
theorem field_lt (l : List Int) {f : Int} (h0 : 0 ≤ f) (h : f < 2) : field l f = at_ l f.toNat := by unfold field; rw [if_neg (by omega), if_pos h]
theorem field_ge (l : List Int) {f : Int} (h : 2 ≤ f) (h8 : f ≤ 8) : field l f = at_ l (2 * f - 2).toNat + 4294967296 * at_ l (2 * f - 1).toNat := by unfold field; rw [if_neg (by omega), if_neg (by omega)]
theorem place_inj {f g : Int} (hf : 0 ≤ f ∧ f ≤ 8) (hg : 0 ≤ g ∧ g ≤ 8) (h : f ≠ g) : place f ≠ place g ∧ (2 ≤ f → place f + 1 ≠ place g) ∧ (2 ≤ f → 2 ≤ g → place f + 1 ≠ place g + 1) ∧ (2 ≤ g → place f ≠ place g + 1) := by
  by_cases e1 : f < 2
  · rw [place_lt hf.1 e1]
    by_cases e2 : g < 2
    · rw [place_lt hg.1 e2]; omega
    · rw [place_ge (by omega) hg.2]; omega
  · rw [place_ge (by omega) hf.2]
    by_cases e2 : g < 2
    · rw [place_lt hg.1 e2]; omega
    · rw [place_ge (by omega) hg.2]; omega
/-- a field that is set is told, and the others stay -/
theorem field_with {l : List Int} (ok : okR l) (f v k : Int) (h0 : 0 ≤ v) (h : fits f v = true) (hk : 0 ≤ k ∧ k ≤ 8) : field (with_ l f v) k = if k = f then v else field l k := by
  have h' := fits_iff.1 h
  by_cases e : k = f
  · subst e
    rw [if_pos rfl]
    by_cases e1 : k < 2
    · rw [field_lt _ hk.1 e1, at_with ok _ _ h0 h, if_pos (by rw [place_lt hk.1 e1]; omega)]
      omega
    · rw [field_ge _ (by omega) hk.2, at_with ok _ _ h0 h, at_with ok _ _ h0 h, if_pos (by rw [place_ge (by omega) hk.2]; omega), if_neg (by rw [place_ge (by omega) hk.2]; omega), if_pos (by rw [place_ge (by omega) hk.2]; omega)]
      omega
  · rw [if_neg e]
    have hp := place_inj h'.1 hk (Ne.symm e)
    by_cases e1 : k < 2
    · rw [place_lt hk.1 e1] at hp
      rw [field_lt _ hk.1 e1, field_lt _ hk.1 e1, at_with ok _ _ h0 h, if_neg (by omega), if_neg (by omega)]
    · rw [place_ge (by omega) hk.2] at hp
      rw [field_ge _ (by omega) hk.2, field_ge _ (by omega) hk.2, at_with ok _ _ h0 h, at_with ok _ _ h0 h, if_neg (by omega), if_neg (by omega), if_neg (by omega), if_neg (by omega)]
theorem with_len {l : List Int} (ok : okR l) (f v : Int) (h : 0 ≤ v ∧ v < 18446744073709551616) : (with_ l f v).length = 16 := (ok_with ok f v h).1
/-- set twice: as it was set last -/
theorem with_twice {l : List Int} (ok : okR l) (f v u : Int) (hv : 0 ≤ v ∧ v < 18446744073709551616) (hu : 0 ≤ u ∧ u < 18446744073709551616) (h : fits f v = true) (h2 : fits f u = true) : with_ (with_ l f v) f u = with_ l f u := by
  have o1 := ok_with ok f v hv
  refine ext16 (with_len o1 f u hu) (with_len ok f u hu) fun j hj => ?_
  rw [at_with o1 _ _ hu.1 h2, at_with ok _ _ hu.1 h2, at_with ok _ _ hv.1 h]
  split
  · rfl
  · split <;> rfl
/-- a field set to what it holds -/
theorem with_same {l : List Int} (ok : okR l) (f : Int) (h : isF f = true) : with_ l f (field l f) = l := by
  have h' := of_decide_eq_true (show decide (0 ≤ f ∧ f ≤ 8) = true from h)
  have hb := field_bd ok f
  refine ext16 (with_len ok f _ hb) ok.1 fun j hj => ?_
  rw [at_with ok _ _ hb.1 (field_fits ok f h)]
  by_cases e : f < 2
  · have b := at_bd ok f.toNat
    rw [place_lt h'.1 e, field_lt l h'.1 e]
    by_cases e2 : (j : Int) = f
    · rw [if_pos e2, show f.toNat = j by omega]
      rw [show f.toNat = j by omega] at b
      omega
    · rw [if_neg e2, if_neg (by omega)]
  · have b := at_bd ok (2 * f - 2).toNat
    have b2 := at_bd ok (2 * f - 1).toNat
    rw [place_ge (by omega) h'.2, field_ge l (by omega) h'.2]
    by_cases e2 : (j : Int) = 2 * f - 2
    · rw [if_pos e2, show (2 * f - 2).toNat = j by omega]
      rw [show (2 * f - 2).toNat = j by omega] at b
      omega
    · rw [if_neg e2]
      by_cases e3 : (j : Int) = 2 * f - 1
      · rw [if_pos (by omega), show (2 * f - 1).toNat = j by omega]
        rw [show (2 * f - 1).toNat = j by omega] at b2
        omega
      · rw [if_neg (by omega)]
theorem with_back {l : List Int} (ok : okR l) (f v : Int) (hv : 0 ≤ v ∧ v < 18446744073709551616) (h : fits f v = true) : with_ (with_ l f v) f (field l f) = l := by
  have hF : isF f = true := by unfold isF; exact decide_eq_true (fits_iff.1 h).1
  rw [with_twice ok f v _ hv (field_bd ok f) h (field_fits ok f hF), with_same ok f hF]
theorem with_comm {l : List Int} (ok : okR l) (f g v u : Int) (hv : 0 ≤ v ∧ v < 18446744073709551616) (hu : 0 ≤ u ∧ u < 18446744073709551616) (h : fits f v = true) (h2 : fits g u = true) (hne : f ≠ g) : with_ (with_ l f v) g u = with_ (with_ l g u) f v := by
  have o1 := ok_with ok f v hv
  have o2 := ok_with ok g u hu
  have hp := place_inj (fits_iff.1 h).1 (fits_iff.1 h2).1 hne
  refine ext16 (with_len o1 g u hu) (with_len o2 f v hv) fun j hj => ?_
  rw [at_with o1 _ _ hu.1 h2, at_with ok _ _ hv.1 h, at_with o2 _ _ hv.1 h, at_with ok _ _ hu.1 h2]
  by_cases a : (j : Int) = place g
  · rw [if_pos a, if_neg (by omega), if_neg (by omega), if_pos a]
  · rw [if_neg a]
    by_cases b : 2 ≤ g ∧ (j : Int) = place g + 1
    · rw [if_pos b, if_neg (by omega), if_neg (by omega), if_neg a, if_pos b]
    · rw [if_neg b, if_neg a, if_neg b]

/-- where field k begins (9: behind the last) -/
def pl (k : Nat) : Nat := if k < 2 then k else 2 * k - 2
/-- the first k fields are those of a, the rest is 0 -/
def Upto (a c : List Int) (k : Nat) : Prop := ∀ i, i < 16 → at_ c i = if i < pl k then at_ a i else 0
theorem upto_zero (a : List Int) : Upto a zero 0 := fun i hi => by rw [at_zero, show pl 0 = 0 from rfl, if_neg (by omega)]
theorem upto_next {a c : List Int} (oka : okR a) (okc : okR c) (k : Nat) (hk : k < 9) (h : Upto a c k) : Upto a (with_ c k (field a k)) (k + 1) := by
  intro i hi
  have hF : isF (k : Int) = true := decide_eq_true (by omega)
  rw [at_with okc _ _ (field_bd oka k).1 (field_fits oka k hF), h i hi]
  by_cases e : (k : Int) < 2
  · have b := at_bd oka k
    have p1 : pl k = k := by unfold pl; rw [if_pos (by omega)]
    have p2 : pl (k + 1) = k + 1 := by unfold pl; split <;> omega
    rw [place_lt (by omega) e, field_lt a (by omega) e, p1, p2, show (k : Int).toNat = k by omega]
    by_cases e2 : (i : Int) = k
    · rw [if_pos e2, if_pos (by omega), show i = k by omega]
      omega
    · rw [if_neg e2, if_neg (by omega)]
      by_cases e3 : i < k
      · rw [if_pos e3, if_pos (by omega)]
      · rw [if_neg e3, if_neg (by omega)]
  · have b1 := at_bd oka (2 * k - 2)
    have b2 := at_bd oka (2 * k - 1)
    have p1 : pl k = 2 * k - 2 := by unfold pl; rw [if_neg (by omega)]
    have p2 : pl (k + 1) = 2 * k := by unfold pl; split <;> omega
    rw [place_ge (by omega) (by omega), field_ge a (by omega) (by omega), p1, p2, show (2 * (k : Int) - 2).toNat = 2 * k - 2 by omega, show (2 * (k : Int) - 1).toNat = 2 * k - 1 by omega]
    by_cases e2 : (i : Int) = 2 * k - 2
    · rw [if_pos e2, if_pos (by omega), show i = 2 * k - 2 by omega]
      omega
    · rw [if_neg e2]
      by_cases e3 : i = 2 * k - 1
      · rw [if_pos (by omega), if_pos (by omega), e3]
        omega
      · rw [if_neg (by omega)]
        by_cases e4 : i < 2 * k - 2
        · rw [if_pos e4, if_pos (by omega)]
        · rw [if_neg e4, if_neg (by omega)]
theorem upto_all {a c : List Int} (oka : okR a) (okc : okR c) (h : Upto a c 9) : c = a :=
  ext16 okc.1 oka.1 fun i hi => by rw [h i hi, if_pos (by rw [show pl 9 = 16 from rfl]; omega)]
theorem fields_all {a b : List Int} (oka : okR a) (okb : okR b) (h : ∀ f : Nat, f < 9 → field a f = field b f) : a = b := by
  refine ext16 oka.1 okb.1 fun i hi => ?_
  by_cases e : i < 2
  · have := h i (by omega)
    rw [field_lt a (by omega) (by omega), field_lt b (by omega) (by omega)] at this
    exact this
  · obtain ⟨k, hk⟩ : ∃ k, k = i / 2 + 1 := ⟨_, rfl⟩
    have hh := h k (by omega)
    rw [field_ge a (by omega) (by omega), field_ge b (by omega) (by omega), show (2 * (k : Int) - 2).toNat = 2 * k - 2 by omega, show (2 * (k : Int) - 1).toNat = 2 * k - 1 by omega] at hh
    have a1 := at_bd oka (2 * k - 2)
    have a2 := at_bd oka (2 * k - 1)
    have b1 := at_bd okb (2 * k - 2)
    have b2 := at_bd okb (2 * k - 1)
    have q1 : at_ a (2 * k - 2) = at_ b (2 * k - 2) := by omega
    have q2 : at_ a (2 * k - 1) = at_ b (2 * k - 1) := by omega
    rcases Nat.mod_two_eq_zero_or_one i with hm | hm
    · rw [show i = 2 * k - 2 by omega]; exact q1
    · rw [show i = 2 * k - 1 by omega]; exact q2

/-! bytes -/
def str (ns : List Int) : ByteArray := ns.foldl (fun r n => r.push (UInt8.ofNat n.toNat)) ByteArray.empty
theorem foldl_push (ns : List Int) (s : ByteArray) : (ns.foldl (fun r n => r.push (UInt8.ofNat n.toNat)) s).data.toList = s.data.toList ++ ns.map fun n => UInt8.ofNat n.toNat := by
  induction ns generalizing s with
  | nil => simp
  | cons n ns ih => rw [List.foldl_cons, ih]; simp [ByteArray.push]
theorem str_list (ns : List Int) : (str ns).data.toList = ns.map fun n => UInt8.ofNat n.toNat := by
  unfold str; rw [foldl_push]; simp
theorem bytes_ext {a b : ByteArray} (h : a.data.toList = b.data.toList) : a = b := by
  cases a; cases b; simp only [ByteArray.mk.injEq]; exact Array.toList_inj.1 h
theorem str_size (ns : List Int) : (str ns).size = ns.length := by
  show (str ns).data.size = _
  rw [← Array.length_toList, str_list, List.length_map]
/-- the byte at place i of a text -/
def byt (s : ByteArray) (i : Nat) : Int := ((s.data.toList.getD i 0).toNat : Int)
theorem byt_bd (s : ByteArray) (i : Nat) : 0 ≤ byt s i ∧ byt s i < 256 := by
  unfold byt
  have := (s.data.toList.getD i 0).toNat_lt
  omega
theorem byt_get (s : ByteArray) (i : Nat) (h : i < s.size) : ((s[i]).toNat : Int) = byt s i := by
  unfold byt
  rw [List.getD_eq_getElem?_getD, List.getElem?_eq_getElem (by simpa using h)]
  rfl
theorem byt_str (ns : List Int) (i : Nat) (h : i < ns.length) (hb : 0 ≤ ns[i] ∧ ns[i] < 256) : byt (str ns) i = ns[i] := by
  unfold byt
  rw [str_list, List.getD_eq_getElem?_getD, List.getElem?_map, List.getElem?_eq_getElem h]
  simp [UInt8.toNat_ofNat']
  omega
def bytes (x : Int) : List Int := [x % 256, x / 256 % 256, x / 65536 % 256, x / 16777216 % 256]
def pr (l : List Int) : List Int := l.flatMap bytes
theorem pr_len (l : List Int) : (pr l).length = 4 * l.length := by
  induction l with
  | nil => rfl
  | cons a l ih => rw [show pr (a :: l) = bytes a ++ pr l from rfl, List.length_append, ih, List.length_cons, show (bytes a).length = 4 from rfl]; omega
theorem pr_snoc (l : List Int) (x : Int) : pr (l ++ [x]) = pr l ++ bytes x := by simp [pr]
theorem pr_take (l : List Int) (k : Nat) (h : k < l.length) : pr (l.take (k + 1)) = pr (l.take k) ++ bytes (at_ l k) := by
  rw [List.take_add_one, List.getElem?_eq_getElem h, Option.toList_some, pr_snoc]
  simp [at_, List.getD_eq_getElem?_getD, List.getElem?_eq_getElem h]
theorem pr_get (l : List Int) (i : Nat) (h : i < 4 * l.length) : (pr l)[i]? = (bytes (at_ l (i / 4)))[i % 4]? := by
  induction l generalizing i with
  | nil => simp at h
  | cons a l ih =>
    rw [show pr (a :: l) = bytes a ++ pr l from rfl]
    by_cases e : i < 4
    · rw [List.getElem?_append_left (by show i < 4; exact e), show i / 4 = 0 by omega, show i % 4 = i by omega]
      rfl
    · rw [List.getElem?_append_right (by show 4 ≤ i; omega), show (bytes a).length = 4 from rfl, ih (i - 4) (by rw [List.length_cons] at h; omega)]
      rw [show i / 4 = (i - 4) / 4 + 1 by omega, show i % 4 = (i - 4) % 4 by omega]
      rfl
theorem bytes_bd (x : Int) (k : Nat) (h : k < 4) : ∃ y, (bytes x)[k]? = some y ∧ 0 ≤ y ∧ y < 256 := by
  match k, h with
  | 0, _ => exact ⟨_, rfl, by omega⟩
  | 1, _ => exact ⟨_, rfl, by omega⟩
  | 2, _ => exact ⟨_, rfl, by omega⟩
  | 3, _ => exact ⟨_, rfl, by omega⟩
theorem byt_pr (l : List Int) (i : Nat) (y : Int) (h : i < 4 * l.length) (hy : (bytes (at_ l (i / 4)))[i % 4]? = some y) : byt (str (pr l)) i = y := by
  have hg := pr_get l i h
  rw [hy] at hg
  obtain ⟨hi, he⟩ := List.getElem?_eq_some_iff.1 hg
  obtain ⟨z, hz, b⟩ := bytes_bd (at_ l (i / 4)) (i % 4) (by omega)
  obtain rfl : z = y := by rw [hz] at hy; simpa using hy
  rw [byt_str _ _ hi (by rw [he]; exact b), he]
/-- the word whose four bytes begin at place p -/
def rd (s : ByteArray) (p : Nat) : Int := byt s p + 256 * byt s (p + 1) + 65536 * byt s (p + 2) + 16777216 * byt s (p + 3)
def rdl (s : ByteArray) (n : Nat) : List Int := (List.range n).map fun j => rd s (4 * j)
def rdr (s : ByteArray) : List Int := rdl s 16
theorem rd_bd (s : ByteArray) (p : Nat) : 0 ≤ rd s p ∧ rd s p < 4294967296 := by
  have h0 := byt_bd s p; have h1 := byt_bd s (p + 1); have h2 := byt_bd s (p + 2); have h3 := byt_bd s (p + 3)
  unfold rd; omega
theorem at_rdl (s : ByteArray) (n i : Nat) : at_ (rdl s n) i = if i < n then rd s (4 * i) else 0 := by
  unfold at_ rdl
  rw [List.getD_eq_getElem?_getD, List.getElem?_map]
  by_cases h : i < n
  · rw [if_pos h, List.getElem?_range h]; rfl
  · rw [if_neg h, List.getElem?_eq_none (by simpa using h)]; rfl
theorem ok_rdr (s : ByteArray) : okR (rdr s) := by
  refine ⟨by simp [rdr, rdl], fun i => ?_⟩
  have := at_rdl s 16 i
  unfold at_ at this
  show 0 ≤ (rdl s 16).getD i 0 ∧ (rdl s 16).getD i 0 < 4294967296
  rw [this]
  split
  · exact rd_bd s _
  · omega
theorem rd_pr (l : List Int) (ok : okR l) (j : Nat) (h : j < 16) : rd (str (pr l)) (4 * j) = at_ l j := by
  have hl := ok.1
  have b := at_bd ok j
  have h0 := byt_pr l (4 * j) (at_ l j % 256) (by omega) (by rw [show 4 * j / 4 = j by omega, show 4 * j % 4 = 0 by omega]; rfl)
  have h1 := byt_pr l (4 * j + 1) (at_ l j / 256 % 256) (by omega) (by rw [show (4 * j + 1) / 4 = j by omega, show (4 * j + 1) % 4 = 1 by omega]; rfl)
  have h2 := byt_pr l (4 * j + 2) (at_ l j / 65536 % 256) (by omega) (by rw [show (4 * j + 2) / 4 = j by omega, show (4 * j + 2) % 4 = 2 by omega]; rfl)
  have h3 := byt_pr l (4 * j + 3) (at_ l j / 16777216 % 256) (by omega) (by rw [show (4 * j + 3) / 4 = j by omega, show (4 * j + 3) % 4 = 3 by omega]; rfl)
  unfold rd
  rw [h0, h1, h2, h3]
  omega
theorem rdr_pr (l : List Int) (ok : okR l) : rdr (str (pr l)) = l :=
  ext16 (ok_rdr _).1 ok.1 fun i hi => by
    show at_ (rdl _ 16) i = _
    rw [at_rdl, if_pos hi, rd_pr l ok i hi]
theorem pr_rdr (s : ByteArray) (h : s.size = 64) : str (pr (rdr s)) = s := by
  apply bytes_ext
  have hs : s.data.toList.length = 64 := by simpa using h
  have hp : (pr (rdr s)).length = 64 := by rw [pr_len, (ok_rdr s).1]
  apply List.ext_getElem (by rw [str_list, List.length_map, hp, hs])
  intro i h1 h2
  have hi : i < 64 := by omega
  have key : byt (str (pr (rdr s))) i = byt s i := by
    have ha : at_ (rdr s) (i / 4) = rd s (4 * (i / 4)) := by
      show at_ (rdl _ 16) _ = _
      rw [at_rdl, if_pos (by omega)]
    have h0 := byt_bd s (4 * (i / 4)); have b1 := byt_bd s (4 * (i / 4) + 1); have b2 := byt_bd s (4 * (i / 4) + 2); have b3 := byt_bd s (4 * (i / 4) + 3)
    refine byt_pr (rdr s) i _ (by rw [(ok_rdr s).1]; omega) ?_
    rw [ha]
    obtain ⟨q, hq⟩ : ∃ q, q = i / 4 := ⟨_, rfl⟩
    obtain ⟨r, hr⟩ : ∃ r, r = i % 4 := ⟨_, rfl⟩
    rw [← hq, ← hr]
    rw [← hq] at h0 b1 b2 b3
    rw [show i = 4 * q + r by omega]
    unfold rd
    match r, (show r < 4 by omega) with
    | 0, _ => show some _ = some _; congr 1; show _ = byt s (4 * q); omega
    | 1, _ => show some _ = some _; congr 1; omega
    | 2, _ => show some _ = some _; congr 1; omega
    | 3, _ => show some _ = some _; congr 1; omega
  unfold byt at key
  rw [List.getD_eq_getElem?_getD, List.getD_eq_getElem?_getD, List.getElem?_eq_getElem h1, List.getElem?_eq_getElem h2] at key
  simp only [Option.getD_some] at key
  apply UInt8.toNat_inj.1
  omega
/-- the first k words read, the rest 0 -/
def fill (s : ByteArray) (k : Nat) : List Int := (List.range 16).map fun j => if j < k then rd s (4 * j) else 0
theorem fill_len (s : ByteArray) (k : Nat) : (fill s k).length = 16 := by simp [fill]
theorem at_fill (s : ByteArray) (k i : Nat) (hi : i < 16) : at_ (fill s k) i = if i < k then rd s (4 * i) else 0 := by
  unfold at_ fill
  rw [List.getD_eq_getElem?_getD, List.getElem?_map, List.getElem?_range hi]
  rfl
theorem fill_zero (s : ByteArray) : fill s 0 = zero := ext16 (fill_len s 0) ok_zero.1 fun i hi => by rw [at_fill s 0 i hi, at_zero, if_neg (by omega)]
theorem fill_all (s : ByteArray) : fill s 16 = rdr s := ext16 (fill_len s 16) (ok_rdr s).1 fun i hi => by
  show _ = at_ (rdl s 16) i
  rw [at_fill s 16 i hi, at_rdl]
theorem fill_set (s : ByteArray) (k : Nat) (hk : k < 16) : (fill s k).set k (rd s (4 * k)) = fill s (k + 1) :=
  ext16 (by rw [List.length_set]; exact fill_len s k) (fill_len s _) fun i hi => by
    rw [at_set _ (fill_len s k) _ _ _ hk, at_fill s k i hi, at_fill s (k + 1) i hi]
    by_cases e : i = k
    · rw [if_pos e, if_pos (by omega), e]
    · rw [if_neg e]
      by_cases e2 : i < k
      · rw [if_pos e2, if_pos (by omega)]
      · rw [if_neg e2, if_neg (by omega)]
theorem byt_extract (s : ByteArray) (p i n : Nat) (hi : i < n) : byt (s.extract p (p + n)) i = byt s (p + i) := by
  unfold byt
  rw [ByteArray.data_extract, Array.toList_extract, List.getD_eq_getElem?_getD, List.getD_eq_getElem?_getD]
  simp [hi]
theorem pr_inj {a b : List Int} (oka : okR a) (okb : okR b) (h : str (pr a) = str (pr b)) : a = b := by
  rw [← rdr_pr a oka, h, rdr_pr b okb]
end Go.Proofs.Ytkeigicobcjleab.R
namespace Go.Proofs.Ytkeigicobcjleab.RB
open Go.ChangeShapes Go.WideShapes Go.ChangeAt Go.RowKit
set_option linter.unusedVariables false

def enc (l : List Int) : Array Value := (l.map (Value.int .u32)).toArray
theorem enc_size {l : List Int} (h : l.length = 16) : (enc l).size = 16 := by simp [enc, h]
theorem enc_get {l : List Int} (h : l.length = 16) (i : Nat) (hi : i < 16) : (enc l)[i]? = some (.int .u32 (R.at_ l i)) := by
  simp [enc, R.at_, List.getD_eq_getElem?_getD, List.getElem?_eq_getElem (show i < l.length by omega)]
theorem enc_set (l : List Int) (i : Nat) (v : Int) : (enc l).setIfInBounds i (.int .u32 v) = enc (l.set i v) := by
  apply Array.toList_inj.1
  simp [enc, List.map_set]
theorem enc_one (l : List Int) : (enc l).all (·.oneCell') = true := by
  rw [Array.all_eq_true_iff_forall_mem]
  intro v hv
  simp [enc] at hv
  obtain ⟨x, _, rfl⟩ := hv
  rfl
theorem enc_inj {l m : List Int} (h : enc l = enc m) : l = m := by
  have := congrArg Array.toList h
  simp only [enc] at this
  exact List.map_inj_right (f := Value.int .u32) (fun a b e => by injection e) |>.1 this
theorem info24 : (Try.prog.info? 24).map (fun i => (i.zero, i.size, i.bytes)) = some (some (.agg (enc R.zero)), 16, 64) := by kernel_rfl
theorem size24 : (Try.prog.info? 24).map (·.size) = some 16 := by kernel_rfl

theorem parts (a : Int) (h0 : 0 ≤ a) (h1 : a < 18446744073709551616) : bits .or .u64 (a / 4294967296 * 4294967296) (a % 4294967296) = a := by
  obtain ⟨n, rfl⟩ := Int.eq_ofNat_of_zero_le h0
  rw [u64_or _ _ (by omega) (by omega) (by omega) (by omega)]
  have e1 : ((n : Int) / 4294967296 * 4294967296).toNat = (n / 4294967296) <<< 32 := by rw [Nat.shiftLeft_eq]; omega
  have e2 : ((n : Int) % 4294967296).toNat = n % 4294967296 := by omega
  rw [e1, e2, ← Nat.shiftLeft_add_eq_or_of_lt (by omega : n % 4294967296 < 2 ^ 32), Nat.shiftLeft_eq]
  omega
theorem join_or (a b : Int) (ha : 0 ≤ a ∧ a < 4294967296) (hb : 0 ≤ b ∧ b < 4294967296) : bits .or .u64 (b * 4294967296) a = a + 4294967296 * b := by
  have := parts (a + 4294967296 * b) (by omega) (by omega)
  rw [show (a + 4294967296 * b) / 4294967296 = b by omega, show (a + 4294967296 * b) % 4294967296 = a by omega] at this
  exact this
end Go.Proofs.Ytkeigicobcjleab.RB
namespace Go.Proofs.Ytkeigicobcjleab.RB
open Go.ChangeShapes Go.WideShapes Go.ChangeAt Go.RowKit
set_option linter.unusedVariables false

theorem below_drawn {B : Nat} {a w : World} (h : Below B a w) (n : Nat) : Below B a (w.drewN n) := ⟨h.os, h.tape, h.output, h.size, h.block⟩
theorem bkeep {W w' : World} (h : Below W.heap.size W w') : (∀ b o, b < W.heap.size → w'.cell? ⟨b, o, none⟩ = W.cell? ⟨b, o, none⟩) ∧ Below W.heap.size W w' :=
  ⟨fun b o hb => h.cell (p := ⟨b, o, none⟩) hb, h⟩

end Go.Proofs.Ytkeigicobcjleab.RB
namespace Go.Proofs.Ytkeigicobcjleab.RB
open Go.ChangeShapes Go.WideShapes Go.ChangeAt Go.RowKit
set_option linter.unusedVariables false

theorem zero_lit : (#[.int .u32 0, .int .u32 0, .int .u32 0, .int .u32 0, .int .u32 0, .int .u32 0, .int .u32 0, .int .u32 0, .int .u32 0, .int .u32 0, .int .u32 0, .int .u32 0, .int .u32 0, .int .u32 0, .int .u32 0, .int .u32 0] : Array Value) = enc R.zero := rfl
theorem zero_size : (enc R.zero).size = 16 := rfl

/-- block b is the record l -/
def Rec (W : World) (b : Nat) (l : List Int) : Prop := W.heap[b]? = some (.cells (enc l) 24 (0, 0)) ∧ l.length = 16

theorem Rec.lt {W : World} {b : Nat} {l : List Int} (h : Rec W b l) : b < W.heap.size := (Array.getElem?_eq_some_iff.1 h.1).1
theorem Rec.new (w : World) (l : List Int) (h : l.length = 16) : Rec (w.alloc (.cells (enc l) 24)) w.heap.size l := ⟨heap_alloc_last w _, h⟩
theorem Rec.alloc {W : World} {b : Nat} {l : List Int} (h : Rec W b l) (o : Obj) : Rec (W.alloc o) b l := ⟨by rw [Below.heap_alloc W o b h.lt]; exact h.1, h.2⟩
theorem Rec.below {W W' : World} {B b : Nat} {l : List Int} (h : Rec W b l) (hB : Below B W W') (hb : b < B) : Rec W' b l := ⟨by rw [hB.block b hb]; exact h.1, h.2⟩
theorem Rec.drew {W : World} {b : Nat} {l : List Int} (h : Rec W b l) : Rec W.drew b l := h
theorem Rec.drewN {W : World} {b : Nat} {l : List Int} (h : Rec W b l) (n : Nat) : Rec (W.drewN n) b l := h
theorem Rec.cell {W : World} {b : Nat} {l : List Int} (h : Rec W b l) (k : Nat) (hk : k < 16) : W.cell? ⟨b, k, none⟩ = some (.int .u32 (R.at_ l k)) := by
  rw [cell_of_row W b k (enc l) _ (0, 0) h.1, enc_get h.2 k hk]
/-- the cells of a block from its first on: under a name, so that the walk does not read them one by one -/
def lcf (b n : Nat) : Sem (Array Value) := loadCellsFrom ⟨b, 0, none⟩ 0 n #[]
theorem lcf_eq : ∀ b n, loadCellsFrom ⟨b, 0, none⟩ 0 n #[] = lcf b n := fun _ _ => rfl
theorem Rec.load {W : World} {b : Nat} {l : List Int} (h : Rec W b l) : (lcf b 16).run Try.prog W = .ok (enc l) W := by
  unfold lcf
  have := run_loadCells_list (P := Try.prog) W ⟨b, 0, none⟩ (enc l).toList (fun j v hv => by
    have hadd : (⟨b, 0, none⟩ : Addr).add j = ⟨b, j, none⟩ := by unfold Addr.add; split <;> simp_all
    rw [hadd, cell_of_row _ _ j (enc l) _ (0, 0) h.1]
    simpa using hv)
  have hs : (enc l).toList.length = 16 := by rw [Array.length_toList, enc_size h.2]
  rw [hs] at this
  simpa [loadCells] using this
theorem Rec.store {W : World} {b : Nat} {l m : List Int} (h : Rec W b l) (hm : m.length = 16) :
    ∃ W2, (storeCells ⟨b, 0, none⟩ (enc m).toList 0).run Try.prog W = .ok () W2 ∧ Rec W2 b m ∧ (∀ b' l', b' ≠ b → Rec W b' l' → Rec W2 b' l') ∧ W2.heap.size = W.heap.size ∧ (∀ (B : Nat) (w0 : World), B ≤ b → Below B w0 W → Below B w0 W2) := by
  refine ⟨W.setRow b (enc m), ?_, ⟨setRow_heap W b _ _ _ _ h.1, hm⟩, fun b' l' hb hR => ⟨by rw [setRow_other _ _ _ _ hb]; exact hR.1, hR.2⟩, by simp, fun B w0 hB hW => below_setRow hW hB _⟩
  have ho : (enc l).size = (enc m).size := by rw [enc_size h.2, enc_size hm]
  have := run_storeVar_row (P := Try.prog) W b 24 24 (enc l) (enc m) h.1 (by rw [size24, enc_size hm]) ho (enc_one m)
  cases hq : Try.prog.info? 24 with
  | none => have := size24; simp [hq] at this
  | some i =>
    have hs : i.size = 16 := by have := size24; simpa [hq] using this
    have hs2 : (enc m).size = 16 := enc_size hm
    simpa [storeVar, sizeOf, typeInfo, hq, Value.cells, hs, hs2] using this
theorem fold16 {l : List Int} (h : l.length = 16) : (#[.int .u32 (R.at_ l 0), .int .u32 (R.at_ l 1), .int .u32 (R.at_ l 2), .int .u32 (R.at_ l 3), .int .u32 (R.at_ l 4), .int .u32 (R.at_ l 5), .int .u32 (R.at_ l 6), .int .u32 (R.at_ l 7), .int .u32 (R.at_ l 8), .int .u32 (R.at_ l 9), .int .u32 (R.at_ l 10), .int .u32 (R.at_ l 11), .int .u32 (R.at_ l 12), .int .u32 (R.at_ l 13), .int .u32 (R.at_ l 14), .int .u32 (R.at_ l 15)] : Array Value) = enc l := by
  match l, h with
  | [_, _, _, _, _, _, _, _, _, _, _, _, _, _, _, _], _ => rfl
theorem Rec.frozen {W : World} {b : Nat} {l : List Int} (h : Rec W b l) (k : Nat) : W.frozen? ⟨b, k, none⟩ = false := by
  simp [World.frozen?, h.1]
theorem Rec.loadVar {W : World} {b : Nat} {l : List Int} (h : Rec W b l) : (loadVar 24 ⟨b, 0, none⟩).run Try.prog W = .ok (.agg (enc l)) W :=
  run_loadVar_row W b 24 24 (enc l) (0, 0) _ h.1 Try.underlying24 rfl (by rw [size24, enc_size h.2])
theorem results_rec {fn : Func} {p u : Tmp} (h : fn.results = #[.cell p 24, .tmp u]) (tmps : Array Value) {W : World} {b : Nat} {l : List Int} (hp : tmps.getD p undef = .pointer (some ⟨b, 0, none⟩)) (hR : Rec W b l) :
    (results fn tmps).run Try.prog W = .ok (.tuple #[.agg (enc l), tmps.getD u undef]) W := by
  rw [results_cell_tmp h, hp]
  simp [asAddr, Result.andThen, hR.loadVar]
theorem heap_setCell_same (W : World) (b k : Nat) (v : Value) (cs : Array Value) (t : TypeId) (fr : Nat × Nat) (h : W.heap[b]? = some (.cells cs t fr)) : (W.setCell ⟨b, k, none⟩ v).heap[b]? = some (.cells (cs.setIfInBounds k v) t fr) := by
  simp [World.setCell, Array.getElem?_modify, h]
theorem Rec.set {W : World} {b : Nat} {l : List Int} (h : Rec W b l) (k : Nat) (x : Int) :
    ∃ W2, W.setCell ⟨b, k, none⟩ (.int .u32 x) = W2 ∧ Rec W2 b (l.set k x) ∧ (∀ b' l', b' ≠ b → Rec W b' l' → Rec W2 b' l') ∧ W2.heap.size = W.heap.size ∧ (∀ (B : Nat) (w0 : World), B ≤ b → Below B w0 W → Below B w0 W2) := by
  refine ⟨_, rfl, ⟨?_, by rw [List.length_set]; exact h.2⟩, fun b' l' hb hR => ⟨by rw [Below.heap_setCell _ _ _ _ hb]; exact hR.1, hR.2⟩, by simp, fun B w0 hB hW => hW.setCell hB _⟩
  rw [heap_setCell_same W b k _ _ _ _ h.1, enc_set]
theorem index_cell (t e : TypeId) (n : Nat) (cs : Array Value) (v : Value) (k : Nat) (hu : Try.prog.underlying t = some (.array n e)) (he : ∀ w, (isAgg e).run Try.prog w = .ok false w) (hs : ∀ w, (sizeOf e).run Try.prog w = .ok 1 w) (hk : k < n) (h : cs[k]? = some v) (W : World) :
    (Instr.index t (.agg cs) (.int .i64 (k : Int))).run Try.prog W = .ok v W := by
  simp [Instr.index, asIntOf, Sem.run_bind, run_underlying hu, Result.andThen, hs, he, part, h, hk]
theorem index24 {l : List Int} (h16 : l.length = 16) (k : Nat) (hk : k < 16) (W : World) : (Instr.index 24 (.agg (enc l)) (.int .i64 (k : Int))).run Try.prog W = .ok (.int .u32 (R.at_ l k)) W :=
  index_cell 24 22 16 (enc l) _ k Try.underlying24 (fun w => by simp [go_sem]) (fun w => by simp [go_sem]) hk (enc_get h16 k hk) W
end Go.Proofs.Ytkeigicobcjleab.RB
namespace Go.Proofs.Ytkeigicobcjleab.RB
open Go.ChangeShapes Go.WideShapes Go.ChangeAt Go.RowKit
set_option linter.unusedVariables false

theorem cells24 : Try.prog.cellsOf 24 = 16 := by kernel_rfl
theorem cells22 : Try.prog.cellsOf 22 = 1 := by kernel_rfl

theorem open_rec {H : Type} {ev : TypeId × Value → H} {W : World} {base : Nat} {spare : Nat → Bool} {held : Bool} {fuel : Nat} {cs : List Value} {x : DataW H × List MemPlace}
    (h : DataW.trod ev Try.prog W base spare held fuel 24 cs = some x) :
    ∃ l : List Int, cs = (enc l).toList ∧ x.2 = [] ∧ R.okR l := by
  obtain ⟨xs, m, _, hx, hl, hxl, hel⟩ := DataW.trod_array Try.underlying24 h
  rw [cells24] at hl
  have key : ∀ i, i < 16 → ∃ n : Int, cs[i]? = some (.int .u32 n) ∧ (∃ y, xs[i]? = some y ∧ y.2 = []) ∧ (0 ≤ n ∧ n < 4294967296) := by
    intro i hi
    have h1 := hel i hi
    obtain ⟨y, hy⟩ : ∃ y, xs[i]? = some y := ⟨_, List.getElem?_eq_getElem (by omega)⟩
    rw [hy] at h1
    obtain ⟨n, e1, e2, wf⟩ := DataW.trod_int Try.underlying22 h1
    rw [cells22, Nat.mul_one] at e1
    refine ⟨n, ?_, ⟨y, hy, by rw [e2]⟩, by have := bounds_u32 wf; omega⟩
    have := congrArg (fun l => l[0]?) e1
    simpa [List.getElem?_take, List.getElem?_drop] using this
  obtain ⟨l, hl16, hg⟩ : ∃ l : List Int, l.length = 16 ∧ ∀ i, i < 16 → ∀ n, cs[i]? = some (.int .u32 n) → R.at_ l i = n := by
    refine ⟨(List.range 16).map fun i => intOf (cs.getD i (.int .u32 0)), by simp, fun i hi n hn => ?_⟩
    simp [R.at_, List.getD_eq_getElem?_getD, List.getElem?_range hi, hn, intOf]
  refine ⟨l, ?_, ?_, hl16, ?_⟩
  · apply List.ext_getElem?
    intro i
    by_cases hi : i < 16
    · obtain ⟨n, e, _, _⟩ := key i hi
      rw [e, Array.getElem?_toList, enc_get hl16 i hi, hg i hi n e]
    · rw [List.getElem?_eq_none (by omega), List.getElem?_eq_none (by rw [Array.length_toList, enc_size hl16]; omega)]
  · rw [hx]
    simp only [List.flatMap_eq_nil_iff]
    intro y hy
    obtain ⟨i, hi, rfl⟩ := List.getElem_of_mem hy
    obtain ⟨_, _, ⟨z, hz, hz2⟩, _⟩ := key i (by omega)
    rw [List.getElem?_eq_getElem hi] at hz
    simp only [Option.some.injEq] at hz
    rw [hz]; exact hz2
  · intro i
    by_cases hi : i < 16
    · obtain ⟨n, e, _, b⟩ := key i hi
      have := hg i hi n e
      unfold R.at_ at this
      rw [this]; exact b
    · rw [List.getD_eq_getElem?_getD, List.getElem?_eq_none (by omega)]; decide

set_option maxRecDepth 100000 in
theorem arg_rec {H : Type} {ev : TypeId × Value → H} {W : World} {base : Nat} {spare : Nat → Bool} {held : Bool} {v : Value} {d : DataW H} {p : List MemPlace} {b0 : Nat} {r : Reach}
    (hv : Value.okWide Try.prog W r b0 24 v) (h : DataW.Trod ev Try.prog W base spare held 24 v d p) :
    ∃ l : List Int, v = .agg (enc l) ∧ p = [] ∧ R.okR l := by
  obtain ⟨cs, rfl, hsz, _⟩ : ∃ cs, v = .agg cs ∧ cs.size = Try.prog.cellsOf 24 ∧ Row.okWide Try.prog W r b0 24 cs := by
    simpa [Value.okWide, Try.underlying24] using hv
  obtain ⟨fuel, hf⟩ := h
  obtain ⟨l, e, e2, ok⟩ := open_rec hf
  refine ⟨l, ?_, e2, ok⟩
  simp only [Value.cells] at e
  rw [Array.toList_inj.1 e]
end Go.Proofs.Ytkeigicobcjleab.RB
