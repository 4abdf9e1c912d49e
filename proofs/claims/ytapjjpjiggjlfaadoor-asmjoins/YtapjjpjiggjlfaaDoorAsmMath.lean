/-
  Numbers in digits of ten, lines and texts, as plain functions over lists of bytes; and what is so of them.
-/
import Derived.Test.YtapjjpjiggjlfaaDoorInsMath
import Derived.Test.YtapjjpjiggjlfaaDoorCodMath
import Derived.Lib.ItoaNum
import Derived.Lib.ParseIntB
namespace Go.Proofs.YtapjjpjiggjlfaaDoor.M
set_option linter.unusedVariables false

def numF : Nat → Nat → List UInt8
  | 0, _ => []
  | f + 1, n => if n < 10 then [UInt8.ofNat (48 + n)] else numF f (n / 10) ++ [UInt8.ofNat (48 + n % 10)]
/-- a number below 10^20 in digits of ten -/
def num (n : Nat) : List UInt8 := numF 20 n
theorem numF_dec : ∀ (f n : Nat), n < 10 ^ f → 0 < f → numF f n = Lib.decDigits n
  | 0, n, _, h => absurd h (by omega)
  | f + 1, n, h, _ => by
    rw [numF, Lib.decDigits]
    by_cases h1 : n < 10
    · rw [if_pos h1, dif_pos h1]
    · rw [if_neg h1, dif_neg h1]
      have h2 : n / 10 < 10 ^ f := by rw [Nat.pow_succ] at h; omega
      have h3 : 0 < f := by
        rcases Nat.eq_zero_or_pos f with rfl | h3
        · simp at h2; omega
        · exact h3
      rw [numF_dec f _ h2 h3]
theorem num_dec {n : Nat} (h : n < 4294967296) : num n = Lib.decDigits n := by
  have h20 : (10:Nat) ^ 20 = 100000000000000000000 := by decide
  exact numF_dec 20 n (by omega) (by omega)
theorem num_small {n : Nat} (h : n < 10) : num n = [UInt8.ofNat (48 + n)] := by
  rw [num_dec (by omega), Lib.decDigits, dif_pos h]
theorem num_big {n : Nat} (h : ¬ n < 10) (h' : n < 4294967296) : num n = num (n / 10) ++ [UInt8.ofNat (48 + n % 10)] := by
  rw [num_dec h', Lib.decDigits, dif_neg h, num_dec (by omega)]
/-- what digits spell, modulo 2^32 aside -/
def val (l : List UInt8) : Nat := l.foldl (fun a b => 10 * a + (b.toNat - 48)) 0
theorem ofNat_toNat {d : Nat} (h : d < 10) : (UInt8.ofNat (48 + d)).toNat = 48 + d := by
  simp [UInt8.toNat_ofNat']; omega
theorem num_ind {p : Nat → Prop} (h0 : ∀ n, n < 10 → p n) (h1 : ∀ n, ¬ n < 10 → n < 4294967296 → p (n / 10) → p n) : ∀ n, n < 4294967296 → p n := by
  intro n
  induction n using Nat.strongRecOn with
  | ind n ih =>
    intro hn
    by_cases h : n < 10
    · exact h0 n h
    · exact h1 n h hn (ih _ (by omega) (by omega))
theorem val_num : ∀ n, n < 4294967296 → val (num n) = n := by
  apply num_ind
  · intro n h
    rw [num_small h]
    show 10 * 0 + ((UInt8.ofNat (48 + n)).toNat - 48) = n
    rw [ofNat_toNat h]; omega
  · intro n h h' ih
    rw [num_big h h', val, List.foldl_append]
    show 10 * val (num (n / 10)) + ((UInt8.ofNat (48 + n % 10)).toNat - 48) = n
    rw [ih, ofNat_toNat (by omega)]; omega
theorem num_inj {n m : Nat} (hn : n < 4294967296) (hm : m < 4294967296) (h : num n = num m) : n = m := by
  rw [← val_num n hn, ← val_num m hm, h]
theorem num_ne : ∀ n, n < 4294967296 → num n ≠ [] := by
  apply num_ind
  · intro n h; rw [num_small h]; simp
  · intro n h h' _; rw [num_big h h']; simp
theorem num_digit : ∀ n, n < 4294967296 → ∀ b ∈ num n, 48 ≤ b.toNat ∧ b.toNat ≤ 57 := by
  apply num_ind
  · intro n h b hb
    rw [num_small h, List.mem_singleton] at hb
    rw [hb, ofNat_toNat h]; omega
  · intro n h h' ih b hb
    rw [num_big h h', List.mem_append, List.mem_singleton] at hb
    rcases hb with hb | hb
    · exact ih b hb
    · rw [hb, ofNat_toNat (by omega)]; omega
theorem num_no {n : Nat} (hn : n < 4294967296) {x : UInt8} (hx : x.toNat < 48) : ∀ b ∈ num n, b ≠ x := by
  rintro b hb rfl
  have := num_digit n hn _ hb
  omega
theorem numF_len : ∀ f n, (numF f n).length ≤ f
  | 0, n => by simp [numF]
  | f + 1, n => by
    rw [numF]
    split
    · simp
    · rw [List.length_append]
      have := numF_len f (n / 10)
      simp; omega
theorem num_len (n : Nat) : (num n).length ≤ 20 := numF_len 20 n
/-- a nought ahead of a number is no number's -/
theorem num_nought {n m : Nat} (hn : n < 4294967296) (hm : m < 4294967296) : num m ≠ 48 :: num n := by
  intro h
  have h1 : val (num m) = val (num n) := by rw [h]; rfl
  rw [val_num m hm, val_num n hn] at h1
  rw [h1] at h
  have := congrArg List.length h
  simp at this

theorem uintM_num (mx : Nat) (hmx : mx < 4294967296) : ∀ n, n < 4294967296 → n ≤ mx → ∀ r, Lib.parseUintM mx 0 (num n ++ r) = Lib.parseUintM mx n r := by
  apply num_ind
  · intro n h hle r
    rw [num_small h, List.singleton_append, Lib.parseUintM, ofNat_toNat h, if_pos (by omega), if_neg (by omega), if_neg (by omega)]
    congr 1; omega
  · intro n h h' ih hle r
    rw [num_big h h', List.append_assoc, ih (by omega), List.singleton_append, Lib.parseUintM, ofNat_toNat (by omega), if_pos (by omega), if_neg (by omega), if_neg (by omega)]
    congr 1; omega
theorem uintB_num {B n : Nat} (hB : 2 ^ B ≤ 4294967296) (h : n < 2 ^ B) : Lib.parseUintB B (num n) = .ok n := by
  rw [Lib.parseUintB, if_neg (num_ne n (by omega))]
  have := uintM_num (2 ^ B - 1) (by omega) n (by omega) (by omega) []
  rw [List.append_nil] at this
  rw [this, Lib.parseUintM]
theorem uintM_le {mx : Nat} : ∀ (l : List UInt8) (acc u : Nat), acc ≤ mx → Lib.parseUintM mx acc l = .ok u → u ≤ mx
  | [], acc, u, ha, h => by
    simp only [Lib.parseUintM] at h
    injection h with h
    omega
  | c :: r, acc, u, ha, h => by
    simp only [Lib.parseUintM] at h
    split at h
    · split at h
      · cases h
      · split at h
        · cases h
        · exact uintM_le r _ u (by omega) h
    · cases h
theorem uintB_lt {B u : Nat} {l : List UInt8} (h : Lib.parseUintB B l = .ok u) : u < 2 ^ B := by
  have hp : 0 < 2 ^ B := Nat.pow_pos (by omega)
  unfold Lib.parseUintB at h
  split at h
  · cases h
  · have := uintM_le l 0 u (by omega) h
    omega

/-- the number of so many bits that is written so -/
def number (B : Nat) (l : List UInt8) : Option Nat := match Lib.parseUintB B l with
  | .ok u => if num u = l then some u else none
  | _ => none
theorem number_iff {B u : Nat} {l : List UInt8} (hB : 2 ^ B ≤ 4294967296) : number B l = some u ↔ u < 2 ^ B ∧ num u = l := by
  unfold number
  constructor
  · intro h
    split at h
    · rename_i v e
      split at h
      · rename_i e'
        cases h
        exact ⟨uintB_lt e, e'⟩
      · cases h
    · cases h
  · rintro ⟨h, rfl⟩
    rw [uintB_num hB h]
    simp

def bef (x : UInt8) (l : List UInt8) : List UInt8 := l.takeWhile (· != x)
def aft (x : UInt8) (l : List UInt8) : List UInt8 := l.dropWhile (· != x)
theorem bef_aft (x : UInt8) (l : List UInt8) : bef x l ++ aft x l = l := List.takeWhile_append_dropWhile
theorem bef_no (x : UInt8) (l : List UInt8) : ∀ b ∈ bef x l, b ≠ x := by
  intro b hb
  have := List.all_takeWhile (p := (· != x)) (l := l)
  have := List.all_eq_true.1 this b hb
  simpa using this
theorem aft_head (x : UInt8) (l : List UInt8) : aft x l = [] ∨ ∃ r, aft x l = x :: r := by
  unfold aft
  induction l with
  | nil => exact Or.inl rfl
  | cons a l ih =>
    rw [List.dropWhile_cons]
    by_cases h : a = x
    · subst h; exact Or.inr ⟨l, by simp⟩
    · simp only [bne_iff_ne, ne_eq, h, not_false_iff, ite_true]; exact ih
theorem bef_len (x : UInt8) (l : List UInt8) : (bef x l).length ≤ l.length := by
  have := congrArg List.length (bef_aft x l)
  rw [List.length_append] at this; omega
theorem aft_drop (x : UInt8) (l : List UInt8) : aft x l = l.drop (bef x l).length := by
  conv => rhs; arg 2; rw [← bef_aft x l]
  simp
theorem bef_take (x : UInt8) (l : List UInt8) : bef x l = l.take (bef x l).length := by
  conv => rhs; arg 2; rw [← bef_aft x l]
  simp
theorem bef_app {x : UInt8} {a r : List UInt8} (h : ∀ b ∈ a, b ≠ x) (hr : r = [] ∨ ∃ q, r = x :: q) : bef x (a ++ r) = a ∧ aft x (a ++ r) = r := by
  induction a with
  | nil =>
    rcases hr with rfl | ⟨q, rfl⟩
    · exact ⟨rfl, rfl⟩
    · simp [bef, aft]
  | cons b a ih =>
    have hb : (b != x) = true := by simpa using h b (by simp)
    obtain ⟨h1, h2⟩ := ih (fun c hc => h c (by simp [hc]))
    simp only [bef, aft] at h1 h2 ⊢
    rw [List.cons_append, List.takeWhile_cons, List.dropWhile_cons, if_pos hb, if_pos hb, h1, h2]
    exact ⟨rfl, rfl⟩

/-- is K written? -/
def hasK (c : Int) : Bool := kind c == 1 || kind c == 3 || kind c == 4 || kind c == 5 || kind c == 6 || kind c == 8 || kind c == 9 || kind c == 11 || kind c == 13 || (kind c == 10 || kind c == 12) && !rdX c && c != 132
def jif (c : Int) : Bool := kind c == 12
/-- an instruction's line, and its error -/
def line (i : I) : List UInt8 × Int :=
  if name i.1 = [] then ([], 6)
  else if (!hasK i.1 && i.2.2.2 != 0 || !jif i.1 && (i.2.1 != 0 || i.2.2.1 != 0)) = true then ([], 1)
  else (name i.1 ++ ((if hasK i.1 then 32 :: num i.2.2.2.toNat else []) ++ (if jif i.1 then 32 :: (num i.2.1.toNat ++ 32 :: num i.2.2.1.toNat) else [])), 0)

def take (B : Nat) (l : List UInt8) : Option (Nat × List UInt8) := match l with
  | [] => none
  | x :: r => if x = 32 then (number B (bef 32 r)).map fun u => (u, aft 32 r) else none
theorem take_iff {B u : Nat} {l r : List UInt8} (hB : 2 ^ B ≤ 4294967296) : take B l = some (u, r) ↔ u < 2 ^ B ∧ l = 32 :: (num u ++ r) ∧ (r = [] ∨ ∃ q, r = 32 :: q) := by
  constructor
  · intro h
    cases l with
    | nil => cases h
    | cons x l =>
      simp only [take] at h
      split at h
      · rename_i hx
        cases e : number B (bef 32 l) with
        | none => rw [e] at h; cases h
        | some v =>
          rw [e] at h
          simp only [Option.map_some, Option.some.injEq, Prod.mk.injEq] at h
          obtain ⟨rfl, rfl⟩ := h
          obtain ⟨h1, h2⟩ := (number_iff hB).1 e
          exact ⟨h1, by rw [hx, h2, bef_aft], aft_head 32 l⟩
      · cases h
  · rintro ⟨h, rfl, hr⟩
    obtain ⟨h1, h2⟩ := bef_app (num_no (n := u) (by omega) (x := 32) (by decide)) hr
    simp only [take, h1, h2, (number_iff hB).2 ⟨h, rfl⟩]
    rfl
def jumps (l : List UInt8) : Option ((Nat × Nat) × List UInt8) := match take 8 l with
  | none => none
  | some (t, r) => match take 8 r with
    | none => none
    | some (f, q) => some ((t, f), q)
theorem jumps_iff {t f : Nat} {l r : List UInt8} : jumps l = some ((t, f), r) ↔ t < 256 ∧ f < 256 ∧ l = 32 :: (num t ++ 32 :: (num f ++ r)) ∧ (r = [] ∨ ∃ q, r = 32 :: q) := by
  unfold jumps
  constructor
  · intro h
    cases e : take 8 l with
    | none => rw [e] at h; cases h
    | some p =>
      obtain ⟨a, b⟩ := p
      rw [e] at h
      simp only at h
      cases e' : take 8 b with
      | none => rw [e'] at h; cases h
      | some p' =>
        obtain ⟨a', b'⟩ := p'
        rw [e'] at h
        simp only [Option.some.injEq, Prod.mk.injEq] at h
        obtain ⟨⟨rfl, rfl⟩, rfl⟩ := h
        obtain ⟨h1, h2, h3⟩ := (take_iff (by decide)).1 e
        obtain ⟨h4, h5, h6⟩ := (take_iff (by decide)).1 e'
        exact ⟨h1, h4, by rw [h2, h5], h6⟩
  · rintro ⟨h1, h2, rfl, h3⟩
    rw [(take_iff (B := 8) (u := t) (r := 32 :: (num f ++ r)) (by decide)).2 ⟨h1, rfl, Or.inr ⟨_, rfl⟩⟩]
    simp only
    rw [(take_iff (B := 8) (u := f) (r := r) (by decide)).2 ⟨h2, rfl, h3⟩]

def partK (c : Int) (l : List UInt8) : Option (Nat × List UInt8) := if hasK c then take 32 l else some (0, l)
def partJ (c : Int) (l : List UInt8) : Option ((Nat × Nat) × List UInt8) := if jif c then jumps l else some ((0, 0), l)
/-- the instruction whose line it is -/
def parse (s : List UInt8) : Option I := match find (bef 32 s) with
  | none => none
  | some c => match partK c (aft 32 s) with
    | none => none
    | some (k, r) => match partJ c r with
      | none => none
      | some ((t, f), q) => if q = [] then some (c, (t : Int), (f : Int), (k : Int)) else none

theorem names_plain : ∀ p ∈ tbl, ∀ b ∈ p.1, b ≠ 32 ∧ b ≠ 10 := by decide
theorem parse_line {s : List UInt8} {i : I} (h : parse s = some i) : okI i ∧ line i = (s, 0) := by
  unfold parse at h
  cases ef : find (bef 32 s) with
  | none => rw [ef] at h; cases h
  | some c =>
    rw [ef] at h
    simp only at h
    cases ek : partK c (aft 32 s) with
    | none => rw [ek] at h; cases h
    | some p =>
      obtain ⟨k, r⟩ := p
      rw [ek] at h
      simp only at h
      cases ej : partJ c r with
      | none => rw [ej] at h; cases h
      | some p =>
        obtain ⟨⟨t, f⟩, q⟩ := p
        rw [ej] at h
        simp only at h
        split at h
        · rename_i hq
          subst hq
          simp only [Option.some.injEq] at h
          subst h
          have hm := find_mem ef
          have hc := vals_small _ hm
          have hn := mem_name hm
          have hne : name c ≠ [] := by rw [hn]; exact keys_some _ hm
          have hs := bef_aft 32 s
          simp only at hc
          have hK : k < 4294967296 ∧ aft 32 s = (if hasK c then 32 :: num k else []) ++ r ∧ (hasK c = false → k = 0) := by
            unfold partK at ek
            split at ek
            · rename_i hk
              obtain ⟨h1, h2, h3⟩ := (take_iff (by decide)).1 ek
              exact ⟨h1, by rw [if_pos hk, h2]; simp, by simp [hk]⟩
            · rename_i hk
              simp only [Option.some.injEq, Prod.mk.injEq] at ek
              obtain ⟨rfl, rfl⟩ := ek
              exact ⟨by omega, by rw [if_neg hk]; simp, fun _ => rfl⟩
          have hJ : t < 256 ∧ f < 256 ∧ r = (if jif c then 32 :: (num t ++ 32 :: num f) else []) ∧ (jif c = false → t = 0 ∧ f = 0) := by
            unfold partJ at ej
            split at ej
            · rename_i hk
              obtain ⟨h1, h2, h3, h4⟩ := jumps_iff.1 ej
              exact ⟨h1, h2, by rw [if_pos hk, h3]; simp, by simp [hk]⟩
            · rename_i hk
              simp only [Option.some.injEq, Prod.mk.injEq] at ej
              obtain ⟨⟨rfl, rfl⟩, rfl⟩ := ej
              exact ⟨by omega, by omega, by rw [if_neg hk], fun _ => ⟨rfl, rfl⟩⟩
          obtain ⟨k1, k2, k3⟩ := hK
          obtain ⟨j1, j2, j3, j4⟩ := hJ
          refine ⟨⟨⟨hc.1, ?_⟩, ⟨?_, ?_⟩, ⟨?_, ?_⟩, ⟨?_, ?_⟩⟩, ?_⟩ <;> try simp only
          · omega
          · omega
          · omega
          · omega
          · omega
          · omega
          · omega
          · unfold line
            simp only
            rw [if_neg hne, if_neg ?_]
            · refine Prod.ext ?_ rfl
              simp only [Int.toNat_natCast]
              rw [hn, ← j3, ← k2, hs]
            · intro hb
              cases e1 : hasK c <;> cases e2 : jif c <;> simp [e1, e2] at hb
              · obtain ⟨a, b⟩ := j4 e2
                have := k3 e1
                omega
              · have := k3 e1
                omega
              · obtain ⟨a, b⟩ := j4 e2
                omega
        · cases h
theorem line_parse {s : List UInt8} {i : I} (ok : okI i) (h : line i = (s, 0)) : parse s = some i := by
  obtain ⟨c, t, f, k⟩ := i
  obtain ⟨⟨c0, c1⟩, ⟨t0, t1⟩, ⟨f0, f1⟩, ⟨k0, k1⟩⟩ := ok
  simp only at c0 c1 t0 t1 f0 f1 k0 k1
  unfold line at h
  simp only at h
  split at h
  · simp at h
  · rename_i hne
    split at h
    · simp at h
    · rename_i hz
      simp only [Prod.mk.injEq, and_true] at h
      have hm := name_mem hne
      have hno := fun b hb => (names_plain _ hm b hb).1
      simp only at hno
      have hr : ∀ X Y : List UInt8, ((if hasK c then 32 :: X else []) ++ (if jif c then 32 :: Y else []) = [] ∨ ∃ q, (if hasK c then 32 :: X else []) ++ (if jif c then 32 :: Y else []) = 32 :: q) := by
        intro X Y
        cases hasK c <;> cases jif c <;> simp
      obtain ⟨h1, h2⟩ := bef_app hno (hr _ _)
      rw [h] at h1 h2
      unfold parse
      rw [h1, mem_find hm, h2]
      simp only
      have eK : partK c ((if hasK c then 32 :: num k.toNat else []) ++ (if jif c then 32 :: (num t.toNat ++ 32 :: num f.toNat) else [])) = some (k.toNat, if jif c then 32 :: (num t.toNat ++ 32 :: num f.toNat) else []) := by
        unfold partK
        cases e : hasK c
        · have : k = 0 := by
            by_cases hk : k = 0
            · exact hk
            · exact absurd (by simp [e, hk]) hz
          simp [this]
        · simp only [if_true, List.cons_append]
          exact (take_iff (by decide)).2 ⟨by omega, rfl, by cases jif c <;> simp⟩
      rw [eK]
      simp only
      have eJ : partJ c (if jif c then 32 :: (num t.toNat ++ 32 :: num f.toNat) else []) = some ((t.toNat, f.toNat), []) := by
        unfold partJ
        cases e : jif c
        · have : t = 0 ∧ f = 0 := by
            by_cases ht : t = 0
            · by_cases hf : f = 0
              · exact ⟨ht, hf⟩
              · exact absurd (by simp [e, hf]) hz
            · exact absurd (by simp [e, ht]) hz
          simp [this.1, this.2]
        · simp only [if_true]
          exact jumps_iff.2 ⟨by omega, by omega, by simp, Or.inl rfl⟩
      rw [eJ]
      simp only [if_true, Option.some.injEq, Prod.mk.injEq, true_and]
      omega
theorem parse_iff {s : List UInt8} {i : I} : parse s = some i ↔ okI i ∧ line i = (s, 0) := ⟨parse_line, fun h => line_parse h.1 h.2⟩

theorem line_err (i : I) : (line i).2 = 0 ∨ (line i).1 = [] := by
  unfold line
  split
  · exact Or.inr rfl
  · split
    · exact Or.inr rfl
    · exact Or.inl rfl
theorem line_errs (i : I) : (line i).2 = 0 ∨ (line i).2 = 1 ∨ (line i).2 = 6 := by
  unfold line
  split
  · simp
  · split
    · simp
    · simp
theorem line_no {i : I} (ok : okI i) : ∀ b ∈ (line i).1, b ≠ 10 := by
  obtain ⟨c, t, f, k⟩ := i
  obtain ⟨⟨c0, c1⟩, ⟨t0, t1⟩, ⟨f0, f1⟩, ⟨k0, k1⟩⟩ := ok
  simp only at c0 c1 t0 t1 f0 f1 k0 k1
  unfold line
  simp only
  split
  · simp
  · rename_i hne
    split
    · simp
    · have hno := fun b hb => (names_plain _ (name_mem hne) b hb).2
      simp only at hno
      intro b hb
      have n1 := num_no (n := k.toNat) (by omega) (x := 10) (by decide)
      have n2 := num_no (n := t.toNat) (by omega) (x := 10) (by decide)
      have n3 := num_no (n := f.toNat) (by omega) (x := 10) (by decide)
      simp only [List.mem_append] at hb
      rcases hb with hb | hb | hb
      · exact hno b hb
      · split at hb
        · rcases List.mem_cons.1 hb with rfl | hb
          · decide
          · exact n1 b hb
        · cases hb
      · split at hb
        · rcases List.mem_cons.1 hb with rfl | hb
          · decide
          · rcases List.mem_append.1 hb with hb | hb
            · exact n2 b hb
            · rcases List.mem_cons.1 hb with rfl | hb
              · decide
              · exact n3 b hb
        · cases hb
theorem line_len (i : I) : (line i).1.length ≤ 69 := by
  unfold line
  split
  · simp
  · rename_i hne
    split
    · simp
    · have h0 := keys_short _ (name_mem hne)
      have n1 := num_len i.2.2.2.toNat
      have n2 := num_len i.2.1.toNat
      have n3 := num_len i.2.2.1.toNat
      simp only at h0
      simp only [List.length_append]
      split <;> split <;> simp <;> omega

/-- a program's text, its first error -/
def txt (l : List I) : List UInt8 := l.flatMap fun i => (line i).1 ++ [10]
def bad (l : List I) : Int := match l with
  | [] => 0
  | i :: l => if (line i).2 = 0 then bad l else (line i).2
def print (l : List I) : List UInt8 × Int :=
  if l = [] then ([], 4) else if 4096 < l.length then ([], 5) else if bad l = 0 then (txt l, 0) else ([], bad l)
theorem txt_append (l m : List I) : txt (l ++ m) = txt l ++ txt m := by simp [txt]
theorem txt_cons (i : I) (l : List I) : txt (i :: l) = (line i).1 ++ 10 :: txt l := by simp [txt]
theorem bad_iff (l : List I) : bad l = 0 ↔ ∀ i ∈ l, (line i).2 = 0 := by
  induction l with
  | nil => simp [bad]
  | cons i l ih =>
    unfold bad
    split
    · rename_i h; rw [ih]; simp [h]
    · rename_i h; simp [h]
theorem bad_append (l m : List I) : bad (l ++ m) = if bad l = 0 then bad m else bad l := by
  induction l with
  | nil => simp [bad]
  | cons i l ih =>
    simp only [List.cons_append, bad]
    split
    · exact ih
    · rfl
theorem txt_len (l : List I) : (txt l).length ≤ 70 * l.length := by
  induction l with
  | nil => simp [txt]
  | cons i l ih =>
    rw [txt_cons]
    have := line_len i
    simp; omega
theorem txt_count {l : List I} (ok : ∀ i ∈ l, okI i) : (txt l).count 10 = l.length := by
  induction l with
  | nil => simp [txt]
  | cons i l ih =>
    rw [txt_cons, List.count_append, List.count_cons, ih (fun j hj => ok j (by simp [hj])), List.count_eq_zero_of_not_mem]
    · simp
    · intro h
      exact line_no (ok i (by simp)) _ h rfl

/-- a text's lines, one behind the other: the place of the first that is none's, or the instructions -/
def rows : List UInt8 → Nat → List UInt8 → Nat ⊕ List I
  | cur, p, [] => if cur = [] then .inr [] else .inl p
  | cur, p, b :: l => if b = 10 then (match parse cur with
      | none => .inl p
      | some i => (match rows [] (p + cur.length + 1) l with
        | .inl q => .inl q
        | .inr m => .inr (i :: m))) else rows (cur ++ [b]) p l
def read (s : List UInt8) : List I × Nat × Int :=
  if s = [] then ([], 0, 4) else if 4096 < s.count 10 then ([], 0, 5) else match rows [] 0 s with
    | .inl p => ([], p, 3)
    | .inr l => (l, 0, 0)
theorem rows_run {a : List UInt8} (h : ∀ b ∈ a, b ≠ 10) : ∀ (cur : List UInt8) (p : Nat) (l : List UInt8), rows cur p (a ++ l) = rows (cur ++ a) p l := by
  induction a with
  | nil => intro cur p l; simp
  | cons b a ih =>
    intro cur p l
    rw [List.cons_append, rows, if_neg (h b (by simp)), ih (fun c hc => h c (by simp [hc]))]
    simp
def more (i : I) (x : Nat ⊕ List I) : Nat ⊕ List I := match x with
  | .inl q => .inl q
  | .inr m => .inr (i :: m)
/-- a line, and what is behind it -/
theorem rows_line {a : List UInt8} (h : ∀ b ∈ a, b ≠ 10) (p : Nat) (l : List UInt8) : rows [] p (a ++ 10 :: l) = match parse a with
    | none => .inl p
    | some i => more i (rows [] (p + a.length + 1) l) := by
  rw [rows_run h, rows, if_pos rfl, List.nil_append]
  rfl
theorem rows_end {a : List UInt8} (h : ∀ b ∈ a, b ≠ 10) (p : Nat) : rows [] p a = if a = [] then .inr [] else .inl p := by
  have := rows_run h [] p []
  rw [List.append_nil] at this
  rw [this, rows, List.nil_append]
def moreL (l : List I) (x : Nat ⊕ List I) : Nat ⊕ List I := match x with
  | .inl q => .inl q
  | .inr m => .inr (l ++ m)
theorem rows_txt : ∀ (l : List I), (∀ i ∈ l, okI i) → bad l = 0 → ∀ (p : Nat) (r : List UInt8), rows [] p (txt l ++ r) = moreL l (rows [] (p + (txt l).length) r)
  | [], _, _, p, r => by
    simp only [txt, List.flatMap_nil, List.nil_append, List.length_nil, Nat.add_zero]
    cases rows [] p r <;> rfl
  | i :: l, ok, hb, p, r => by
    have h0 := (bad_iff _).1 hb i (by simp)
    have hl : bad l = 0 := (bad_iff _).2 fun j hj => (bad_iff _).1 hb j (by simp [hj])
    rw [txt_cons, List.append_assoc, List.cons_append, rows_line (line_no (ok i (by simp))), line_parse (i := i) (ok i (by simp)) (by rw [← h0])]
    simp only
    rw [rows_txt l (fun j hj => ok j (by simp [hj])) hl, show p + ((line i).1 ++ 10 :: txt l).length = p + (line i).1.length + 1 + (txt l).length by simp; omega]
    cases rows [] (p + (line i).1.length + 1 + (txt l).length) r <;> rfl
theorem rows_ok : ∀ (s cur : List UInt8) (p : Nat) (l : List I), rows cur p s = .inr l → txt l = cur ++ s ∧ (∀ i ∈ l, okI i) ∧ bad l = 0
  | [], cur, p, l, h => by
    rw [rows] at h
    split at h
    · rename_i hc
      cases h
      subst hc
      exact ⟨rfl, by simp, rfl⟩
    · cases h
  | b :: s, cur, p, l, h => by
    rw [rows] at h
    split at h
    · rename_i hb
      subst hb
      cases e : parse cur with
      | none => rw [e] at h; cases h
      | some i =>
        rw [e] at h
        simp only at h
        cases e' : rows [] (p + cur.length + 1) s with
        | inl q => rw [e'] at h; cases h
        | inr m =>
          rw [e'] at h
          simp only [Sum.inr.injEq] at h
          subst h
          obtain ⟨h1, h2, h3⟩ := rows_ok s [] _ m e'
          obtain ⟨h4, h5⟩ := parse_line e
          refine ⟨by rw [txt_cons, h5, h1]; simp, ?_, ?_⟩
          · intro j hj
            rcases List.mem_cons.1 hj with rfl | hj
            · exact h4
            · exact h2 j hj
          · rw [bad, if_pos (by rw [h5])]
            exact h3
    · obtain ⟨h1, h2, h3⟩ := rows_ok s _ p l h
      exact ⟨by rw [h1]; simp, h2, h3⟩
theorem rows_place : ∀ (s cur : List UInt8) (p q : Nat), rows cur p s = .inl q → q < p + cur.length + s.length
  | [], cur, p, q, h => by
    rw [rows] at h
    split at h
    · cases h
    · rename_i hc
      cases h
      have := List.length_pos_iff.2 hc
      omega
  | b :: s, cur, p, q, h => by
    rw [rows] at h
    split at h
    · cases e : parse cur with
      | none =>
        rw [e] at h
        simp only [Sum.inl.injEq] at h
        subst h
        simp; omega
      | some i =>
        rw [e] at h
        simp only at h
        cases e' : rows [] (p + cur.length + 1) s with
        | inl r =>
          rw [e'] at h
          simp only [Sum.inl.injEq] at h
          subst h
          have := rows_place s [] _ r e'
          simp at this ⊢; omega
        | inr m => rw [e'] at h; cases h
    · have := rows_place s _ p q h
      simp at this ⊢; omega
end Go.Proofs.YtapjjpjiggjlfaaDoor.M
