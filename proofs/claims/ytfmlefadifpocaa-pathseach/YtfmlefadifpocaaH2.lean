/-
  The document's own list of codes and their names, as walks over the Go text.
-/
import Derived.Test.YtfmlefadifpocaaH1
import Derived.Deep.RegionHeld
import Derived.RangeFuncRecord
import Derived.Lib.QuietBelow
namespace Go.Proofs.Ytfmlefadifpocaa.M
def names : List (List UInt8) := [[108, 100, 105], [108, 100, 120, 105], [115, 116], [115, 116, 120], [97, 100, 100], [106, 97], [114, 101, 116], [116, 97, 120], [97, 100, 100, 120], [115, 117, 98], [106, 101, 113], [114, 101, 116, 97], [115, 117, 98, 120], [106, 101, 113, 120], [108, 100], [109, 117, 108], [106, 103, 116], [109, 117, 108, 120], [106, 103, 116, 120], [100, 105, 118], [106, 103, 101], [100, 105, 118, 120], [106, 103, 101, 120], [111, 114], [106, 115, 101, 116], [111, 114, 120], [106, 115, 101, 116, 120], [97, 110, 100], [97, 110, 100, 120], [108, 100, 109], [108, 100, 120, 109], [108, 115, 104], [108, 115, 104, 120], [114, 115, 104], [114, 115, 104, 120], [108, 100, 108, 101, 110], [108, 100, 120, 108, 101, 110], [110, 101, 103], [116, 120, 97], [120, 111, 114], [120, 111, 114, 120]]
theorem names_eq : names = codes.map name := by decide +kernel
def cd (j : Nat) : Int := codes.getD j 0
def nm (j : Nat) : List UInt8 := names.getD j []
theorem nm_eq : ∀ j : Fin 41, nm j.val = name (cd j.val) := by decide +kernel
theorem cd_get : ∀ j : Fin 41, codes[j.val]? = some (cd j.val) := by decide
theorem nm_get : ∀ j : Fin 41, names[j.val]? = some (nm j.val) := by decide
theorem not_code {c : Int} (h : ∀ j, j < 41 → cd j ≠ c) : c ∉ codes := fun hc => by
  obtain ⟨j, hj, e⟩ := List.mem_iff_getElem.1 hc
  have h41 : j < 41 := hj
  have := cd_get ⟨j, h41⟩
  simp only [List.getElem?_eq_getElem hj, Option.some.injEq] at this
  exact h j h41 (this ▸ e)
end Go.Proofs.Ytfmlefadifpocaa.M
namespace Go.Proofs.Ytfmlefadifpocaa.B
open Go.ChangeShapes Go.WideShapes Go.ChangeAt Go.RowKit Go.Maps
open Go.Sort hiding Below
set_option linter.unusedVariables false

set_option maxRecDepth 100000 in
set_option maxHeartbeats 4000000 in
theorem rall_any (w : World) :
    Calls Try.prog 67 #[] w fun e w' => e = .returned (.slice (some ⟨w.heap.size, 0, none⟩) 41 41) ∧ w' = w.alloc (.cells (M.codes.map (Value.int .u16)).toArray 35) := by
  go_enter Try.func67, Try.ntmps67
  go_wp2
  go_ret
  exact ⟨rfl, rfl⟩

theorem cell_lit (w : World) (l : List Value) (t : TypeId) (j : Nat) : (w.alloc (.cells l.toArray t)).cell? ⟨w.heap.size, j, none⟩ = l[j]? := by
  simp only [World.cell?, World.alloc_heap_new]
  simp
def sv (s : List UInt8) : Value := .string ⟨s.toArray⟩

set_option maxRecDepth 100000 in
set_option maxHeartbeats 4000000 in
theorem rname_any (c : Int) (w : World) :
    Calls Try.prog 58 #[.int .u16 c] w fun e w' => e = .returned (.string ⟨(M.name c).toArray⟩) ∧ Below w.heap.size w w' := by
  go_enter Try.func58, Try.ntmps58
  go_wp2_with fail
  refine (rall_any _).mono ?_
  rintro e W ⟨rfl, hW⟩
  have hw : W = (w.alloc (.cells (M.names.map sv).toArray 9)).alloc (.cells (M.codes.map (Value.int .u16)).toArray 35) := hW
  clear hW
  have hs : (w.alloc (.cells (M.names.map sv).toArray 9)).heap.size = w.heap.size + 1 := by simp
  have hc : ∀ j : Nat, j < 41 → W.cell? ⟨w.heap.size + 1, j, none⟩ = some (.int .u16 (M.cd j)) := fun j hj => by
    rw [hw, ← hs, cell_lit, List.getElem?_map, M.cd_get ⟨j, hj⟩]; rfl
  have hn : ∀ j : Nat, j < 41 → W.cell? ⟨w.heap.size, j, none⟩ = some (.string ⟨(M.nm j).toArray⟩) := fun j hj => by
    rw [hw, World.cell?_alloc_some _ _ _ (by rw [cell_lit, List.getElem?_map, M.nm_get ⟨j, hj⟩]; rfl), cell_lit, List.getElem?_map, M.nm_get ⟨j, hj⟩]; rfl
  have HB : Hid (Below w.heap.size w W) := by
    rw [hw]
    exact ((Below.refl _ w).alloc (Nat.le_refl _) _).alloc (by simp) _
  clear hw hs
  have HC := hid hc
  have HN := hid hn
  clear hc hn
  go_wp2
  go_loop [5] (fun i => ∃ k : Nat, k ≤ 41 ∧ i = .int .i64 (k : Int) ∧ ∀ j, j < k → M.cd j ≠ c) (fun i => (41 - intOf i).toNat)
  case atStart => exact ⟨0, by omega, rfl, fun j hj => by omega⟩
  case round =>
    obtain ⟨k, hk, rfl, hall⟩ := hrel
    have HA := hid hall
    clear hall
    by_cases h41 : k < 41
    · have hck := HC.out k h41
      have hnk := HN.out k h41
      have hkz : (k : Int) < 41 := by omega
      by_cases he : M.cd k = c
      · have hq : (M.cd k == c) = true := by simpa using he
        have HE := hid he
        clear he
        go_wp2
        go_ret
        exact ⟨by rw [← HE.out, ← M.nm_eq ⟨k, h41⟩]; rfl, HB.out⟩
      · have hq : (M.cd k == c) = false := by simpa using he
        have HE := hid he
        clear he
        go_wp2
        go_round
        case rel => exact ⟨k + 1, by omega, by go_num, fun j hj => by
          by_cases e : j = k
          · rw [e]; exact HE.out
          · exact HA.out j (by omega)⟩
        case measure => simp [intOf]; omega
    · obtain rfl : k = 41 := by omega
      go_wp2
      go_ret
      refine ⟨?_, HB.out⟩
      have := M.not_code HA.out
      rw [← M.name_codes, ne_eq, Classical.not_not] at this
      rw [this]
      rfl
end Go.Proofs.Ytfmlefadifpocaa.B
namespace Go.Proofs.Ytfmlefadifpocaa.B
open Go.ChangeShapes Go.WideShapes Go.ChangeAt Go.RowKit Go.Maps
open Go.Sort hiding Below
set_option linter.unusedVariables false

theorem rest_kind : ∀ c ∈ M.codes, (c == 32) = false → (c == 128) = false → (c == 0) = false → (c == 96) = false → (c == 1) = false → (c == 97) = false → (c == 129) = false → (c == 2) = false → (c == 3) = false → (c == 5) = false → (c == 6) = false → (c == 22) = false → (c == 7) = false → (c == 135) = false → M.kind c = if c % 8 == 4 then 10 else 12 := by decide
set_option maxRecDepth 100000 in
set_option maxHeartbeats 4000000 in
theorem rkind_any (c : Int) (h0 : 0 ≤ c) (h1 : c < 65536) (w : World) :
    Calls Try.prog 44 #[.int .u16 c] w fun e w' => e = .returned (.int .i64 (M.kind c)) ∧ Below w.heap.size w w' := by
  by_cases hc : c ∈ M.codes
  · have hn := M.name_codes.2 hc
    have hq : ((M.name c) == []) = false := by simpa using hn
    have HC := hid hc
    clear hn hc
    go_enter Try.func44, Try.ntmps44
    go_wp2_with fail
    refine (rname_any _ _).mono ?_
    rintro e W ⟨rfl, hb⟩
    have HB := hid hb
    clear hb
    generalize M.name c = s at hq ⊢
    go_wp2
    all_goals go_ret
    all_goals first
      | (rename_i h; obtain rfl := eq_of_beq h; exact ⟨rfl, HB.out⟩)
      | (refine ⟨?_, HB.out⟩; rw [rest_kind c HC.out (by assumption) (by assumption) (by assumption) (by assumption) (by assumption) (by assumption) (by assumption) (by assumption) (by assumption) (by assumption) (by assumption) (by assumption) (by assumption) (by assumption)]; rename_i h; rw [h]; rfl)
  · have hn : M.name c = [] := by
      have := hc
      rw [← M.name_codes, ne_eq, Classical.not_not] at this
      exact this
    have HK := hid (M.kind_none hc)
    have hr := rname_any c w
    rw [hn] at hr
    clear hn hc
    go_enter Try.func44, Try.ntmps44
    go_wp2_with fail
    refine hr.mono ?_
    clear hr
    rintro e W ⟨rfl, hb⟩
    have HB := hid hb
    clear hb
    go_wp2
    go_ret
    exact ⟨by rw [HK.out]; rfl, HB.out⟩

theorem div8 {c : Int} (h0 : 0 ≤ c) (h1 : c < 65536) : (IntKind.u16.wrap (c.tdiv 8)).tmod 2 = c / 8 % 2 := by
  rw [Int.tdiv_eq_ediv_of_nonneg h0]
  have : IntKind.u16.wrap (c / 8) = c / 8 := by
    show (c / 8) % 65536 = c / 8
    omega
  rw [this, Int.tmod_eq_emod_of_nonneg (by omega)]
end Go.Proofs.Ytfmlefadifpocaa.B
namespace Go.Proofs.Ytfmlefadifpocaa.M
set_option linter.unusedVariables false

/-- what is wrong with an instruction alone, at place i of n -/
def loc (n i : Nat) (x : I) : Int :=
  if kind x.1 = 0 then 6
  else if kind x.1 = 1 then (if 64 ≤ x.2.2.2 ∨ x.2.2.2 % 4 ≠ 0 then 11 else 0)
  else if kind x.1 = 4 ∨ kind x.1 = 6 ∨ kind x.1 = 8 ∨ kind x.1 = 9 then (if 16 ≤ x.2.2.2 then 10 else 0)
  else if kind x.1 = 10 then (if x.1 = 52 ∧ x.2.2.2 = 0 then 8 else if (x.1 = 100 ∨ x.1 = 116) ∧ 32 ≤ x.2.2.2 then 9 else 0)
  else if kind x.1 = 11 then (if (n : Int) ≤ i + 1 + x.2.2.2 then 7 else 0)
  else if kind x.1 = 12 then (if (n : Int) ≤ i + 1 + x.2.1 ∨ (n : Int) ≤ i + 1 + x.2.2.1 then 7 else 0)
  else 0
/-- the places that come behind place i -/
def nxt (i : Nat) (x : I) : List Nat :=
  if kind x.1 = 11 then [i + 1 + x.2.2.2.toNat]
  else if kind x.1 = 12 then [i + 1 + x.2.1.toNat, i + 1 + x.2.2.1.toNat]
  else if kind x.1 = 13 ∨ kind x.1 = 14 then []
  else [i + 1]
/-- does it write the word? -/
def wrW (w : Int) (x : I) : Bool := (kind x.1 == 8 || kind x.1 == 9) && x.2.2.2 == w
/-- does it read a word? -/
def rdW (x : I) : Bool := kind x.1 == 4 || kind x.1 == 6
def rets (x : I) : Bool := kind x.1 == 13 || kind x.1 == 14
theorem nxt_gt {i j : Nat} {x : I} (h : j ∈ nxt i x) : i < j := by
  unfold nxt at h
  split at h
  · simp at h; omega
  · split at h
    · simp at h; omega
    · split at h
      · simp at h
      · simp at h; omega

/-- which places some way from the first one comes to that writes the word nowhere, as it is reckoned: place by place -/
def setAll (o : List Bool) (js : List Nat) : List Bool := js.foldl (fun o j => o.set j true) o
def stepW (l : List I) (w : Int) (o : List Bool) (i : Nat) : List Bool := match l[i]? with
  | none => o
  | some x => if (o.getD i false && !wrW w x) = true then setAll o (nxt i x) else o
def outAt (l : List I) (w : Int) : Nat → List Bool
  | 0 => (List.replicate l.length false).set 0 true
  | i + 1 => stepW l w (outAt l w i) i
def bare (l : List I) (w : Int) (i : Nat) : Bool := (outAt l w l.length).getD i false

theorem setAll_len (js : List Nat) : ∀ o : List Bool, (setAll o js).length = o.length := by
  induction js with
  | nil => intro o; rfl
  | cons j js ih => intro o; unfold setAll at *; rw [List.foldl_cons, ih, List.length_set]
theorem set_getD (o : List Bool) (j i : Nat) : (o.set j true).getD i false = (decide (j = i ∧ i < o.length) || o.getD i false) := by
  rw [List.getD_eq_getElem?_getD, List.getD_eq_getElem?_getD, List.getElem?_set]
  by_cases h : j = i
  · subst h
    by_cases h' : j < o.length
    · simp [h']
    · simp [h']
  · simp [h]
theorem setAll_getD (js : List Nat) : ∀ (o : List Bool) (i : Nat), (setAll o js).getD i false = (decide (i ∈ js ∧ i < o.length) || o.getD i false) := by
  induction js with
  | nil => intro o i; simp [setAll]
  | cons j js ih =>
    intro o i
    have e : setAll o (j :: js) = setAll (o.set j true) js := rfl
    rw [e, ih, set_getD, List.length_set]
    by_cases h1 : i ∈ js <;> by_cases h2 : j = i <;> by_cases h3 : i < o.length <;> simp [h1, h2, h3, eq_comm]
theorem stepW_len (l : List I) (w : Int) (o : List Bool) (i : Nat) : (stepW l w o i).length = o.length := by
  unfold stepW
  split
  · rfl
  · split
    · exact setAll_len _ _
    · rfl
theorem outAt_len (l : List I) (w : Int) (i : Nat) : (outAt l w i).length = l.length := by
  induction i with
  | zero => simp [outAt]
  | succ i ih => rw [outAt, stepW_len, ih]
theorem outAt_succ (l : List I) (w : Int) (i j : Nat) : (outAt l w (i + 1)).getD j false = true ↔ (outAt l w i).getD j false = true ∨ ∃ h : i < l.length, (outAt l w i).getD i false = true ∧ wrW w l[i] = false ∧ j ∈ nxt i l[i] ∧ j < l.length := by
  rw [outAt]
  unfold stepW
  by_cases h : i < l.length
  · rw [List.getElem?_eq_getElem h]
    simp only
    split
    · rename_i hc
      rw [Bool.and_eq_true, Bool.not_eq_true'] at hc
      rw [setAll_getD, Bool.or_eq_true, decide_eq_true_eq, outAt_len]
      constructor
      · rintro (⟨h1, h2⟩ | h1)
        · exact Or.inr ⟨h, hc.1, hc.2, h1, h2⟩
        · exact Or.inl h1
      · rintro (h1 | ⟨_, _, _, h1, h2⟩)
        · exact Or.inr h1
        · exact Or.inl ⟨h1, h2⟩
    · rename_i hc
      constructor
      · exact Or.inl
      · rintro (h1 | ⟨_, h1, h2, _⟩)
        · exact h1
        · exact absurd (by rw [h1, h2]; rfl) hc
  · rw [List.getElem?_eq_none (by omega)]
    simp only
    constructor
    · exact Or.inl
    · rintro (h1 | ⟨h2, _⟩)
      · exact h1
      · exact absurd h2 h
theorem outAt_mono (l : List I) (w : Int) {i k j : Nat} (h : i ≤ k) (hj : (outAt l w i).getD j false = true) : (outAt l w k).getD j false = true := by
  induction k with
  | zero => rw [show i = 0 by omega] at hj; exact hj
  | succ k ih =>
    rcases Nat.lt_or_ge k i with h' | h'
    · rw [show i = k + 1 by omega] at hj; exact hj
    · exact (outAt_succ l w k j).2 (Or.inl (ih h'))
/-- what is reckoned of a place when it is come to is what is reckoned of it in the end -/
theorem outAt_done (l : List I) (w : Int) {i k : Nat} (h : i ≤ k) (hj : (outAt l w k).getD i false = true) : (outAt l w i).getD i false = true := by
  induction k with
  | zero => rw [show i = 0 by omega] at hj ⊢; exact hj
  | succ k ih =>
    rcases Nat.lt_or_ge k i with h' | h'
    · rw [show i = k + 1 by omega] at hj ⊢; exact hj
    · rcases (outAt_succ l w k i).1 hj with h1 | ⟨_, _, _, h1, _⟩
      · exact ih h' h1
      · have := nxt_gt h1; omega
theorem bare_at (l : List I) (w : Int) {i : Nat} (h : i ≤ l.length) : bare l w i = (outAt l w i).getD i false := by
  rw [Bool.eq_iff_iff]
  exact ⟨fun h1 => outAt_done l w h h1, fun h1 => outAt_mono l w h h1⟩
/-- some way from the first place comes here and writes the word nowhere -/
def Bare (l : List I) (w : Int) (i : Nat) : Prop := bare l w i = true
theorem bare_iff (l : List I) (w : Int) (i : Nat) : bare l w i = true ↔ Bare l w i := Iff.rfl
theorem Bare.zero {l : List I} {w : Int} (h : 0 < l.length) : Bare l w 0 := by
  refine outAt_mono l w (Nat.zero_le _) ?_
  rw [outAt, set_getD, Bool.or_eq_true, decide_eq_true_eq]
  exact Or.inl ⟨rfl, by rw [List.length_replicate]; exact h⟩
theorem Bare.step {l : List I} {w : Int} {i j : Nat} (h : i < l.length) (hi : Bare l w i) (hw : wrW w l[i] = false) (hj : j ∈ nxt i l[i]) (hl : j < l.length) : Bare l w j := by
  refine outAt_mono l w (show i + 1 ≤ l.length by omega) ((outAt_succ l w i j).2 (Or.inr ⟨h, ?_, hw, hj, hl⟩))
  rw [← bare_at l w (by omega)]; exact hi
/-- what is so of the first place, and goes along each step that doesn't write the word, is so of each such place -/
theorem Bare.ind {l : List I} {w : Int} {P : Nat → Prop} (hz : 0 < l.length → P 0) (hs : ∀ (i j : Nat) (h : i < l.length), Bare l w i → P i → wrW w l[i] = false → j ∈ nxt i l[i] → j < l.length → P j) : ∀ {i : Nat}, Bare l w i → P i := by
  have : ∀ k j, (outAt l w k).getD j false = true → Bare l w j ∧ P j := by
    intro k
    induction k with
    | zero =>
      intro j hj
      rw [outAt, set_getD, Bool.or_eq_true, decide_eq_true_eq] at hj
      rcases hj with ⟨rfl, hl⟩ | hj
      · rw [List.length_replicate] at hl; exact ⟨Bare.zero hl, hz hl⟩
      · rw [List.getD_eq_getElem?_getD, List.getElem?_replicate] at hj
        split at hj <;> simp at hj
    | succ k ih =>
      intro j hj
      rcases (outAt_succ l w k j).1 hj with h1 | ⟨h, h1, h2, h3, h4⟩
      · exact ih j h1
      · have hk := ih k h1
        exact ⟨Bare.step h hk.1 h2 h3 h4, hs k j h hk.1 hk.2 h2 h3 h4⟩
  exact fun {i} h => (this _ i h).2
theorem Bare.lt {l : List I} {w : Int} {i : Nat} (h : Bare l w i) : i < l.length :=
  Bare.ind (P := fun i => i < l.length) (fun h => h) (fun _ _ _ _ _ _ _ h => h) h

/-- is nothing wrong with any alone, and the length as it may be? -/
def alone (l : List I) : Prop := ∀ i (h : i < l.length), loc l.length i l[i] = 0
/-- the first place that is wrong alone -/
def wrong (l : List I) (i : Nat) : Bool := match l[i]? with
  | none => false
  | some x => loc l.length i x != 0
/-- a place that reads a word that isn't written for sure -/
def raw (l : List I) (i : Nat) : Bool := match l[i]? with
  | none => false
  | some x => rdW x && bare l x.2.2.2 i
def firstOf (n : Nat) (f : Nat → Bool) : Option Nat := (List.range n).find? f
def check (l : List I) : Nat × Int :=
  if l.length = 0 then (0, 4)
  else if 4096 < l.length then (0, 5)
  else match firstOf l.length (wrong l) with
    | some i => (i, loc l.length i (l.getD i (0, 0, 0, 0)))
    | none => if rets (l.getD (l.length - 1) (0, 0, 0, 0)) = false then (l.length - 1, 12)
      else match firstOf l.length (raw l) with
        | some i => (i, 10)
        | none => (0, 0)
theorem first_none {n : Nat} {f : Nat → Bool} : firstOf n f = none ↔ ∀ i, i < n → f i = false := by
  unfold firstOf
  rw [List.find?_eq_none]
  exact ⟨fun h i hi => by simpa using h i (List.mem_range.2 hi), fun h x hx => by simpa using h x (List.mem_range.1 hx)⟩
theorem first_some {n i : Nat} {f : Nat → Bool} : firstOf n f = some i ↔ i < n ∧ f i = true ∧ ∀ j, j < i → f j = false := by
  unfold firstOf
  constructor
  · intro h
    have h1 := List.mem_range.1 (List.mem_of_find?_eq_some h)
    have h2 := List.find?_some h
    refine ⟨h1, h2, fun j hj => ?_⟩
    have h3 := List.find?_eq_some_iff_getElem.1 h
    obtain ⟨_, k, hk, e, h4⟩ := h3
    rw [List.getElem_range] at e
    subst e
    have := h4 j hj
    rw [List.getElem_range] at this
    simpa using this
  · rintro ⟨h1, h2, h3⟩
    rw [List.find?_eq_some_iff_getElem]
    refine ⟨h2, i, by simpa using h1, by simp, fun j hj => ?_⟩
    rw [List.getElem_range]
    simp [h3 j hj]
/-- a filter -/
def right (l : List I) : Prop := check l = (0, 0)
theorem right_iff (l : List I) : right l ↔ (0 < l.length ∧ l.length ≤ 4096) ∧ (∀ i, i < l.length → wrong l i = false) ∧ rets (l.getD (l.length - 1) (0, 0, 0, 0)) = true ∧ ∀ i, i < l.length → raw l i = false := by
  unfold right check
  constructor
  · intro h
    split at h
    · simp at h
    · split at h
      · simp at h
      · split at h
        · rename_i i e
          have := first_some.1 e
          simp only [Prod.mk.injEq] at h
          have hw := this.2.1
          unfold wrong at hw
          rw [List.getElem?_eq_getElem this.1] at hw
          rw [List.getD_eq_getElem?_getD, List.getElem?_eq_getElem this.1] at h
          simp at hw h
          exact absurd h.2 hw
        · rename_i e
          split at h
          · simp at h
          · split at h
            · simp at h
            · rename_i e2
              exact ⟨⟨by omega, by omega⟩, first_none.1 e, eq_true_of_ne_false (by assumption), first_none.1 e2⟩
  · rintro ⟨⟨h1, h2⟩, h3, h4, h5⟩
    rw [if_neg (by omega), if_neg (by omega), first_none.2 h3]
    simp only
    rw [if_neg (by rw [h4]; simp), first_none.2 h5]

/-- the ways of a program behind others that go on to the next place and write nothing -/
def plain (x : I) : Prop := kind x.1 = 2 ∨ kind x.1 = 3 ∨ kind x.1 = 5 ∨ kind x.1 = 7 ∨ kind x.1 = 15 ∨ kind x.1 = 16
theorem plain_nxt {x : I} (h : plain x) (i : Nat) : nxt i x = [i + 1] := by
  unfold plain at h
  unfold nxt
  rw [if_neg (by omega), if_neg (by omega), if_neg (by omega)]
theorem plain_wr {x : I} (h : plain x) (w : Int) : wrW w x = false := by
  unfold plain at h
  unfold wrW
  have h1 : (kind x.1 == 8) = false := by rw [beq_eq_false_iff_ne]; omega
  have h2 : (kind x.1 == 9) = false := by rw [beq_eq_false_iff_ne]; omega
  simp [h1, h2]
theorem plain_rd {x : I} (h : plain x) : rdW x = false := by
  unfold plain at h
  unfold rdW
  have h1 : (kind x.1 == 4) = false := by rw [beq_eq_false_iff_ne]; omega
  have h2 : (kind x.1 == 6) = false := by rw [beq_eq_false_iff_ne]; omega
  simp [h1, h2]
theorem plain_rets {x : I} (h : plain x) : rets x = false := by
  unfold plain at h
  unfold rets
  have h1 : (kind x.1 == 13) = false := by rw [beq_eq_false_iff_ne]; omega
  have h2 : (kind x.1 == 14) = false := by rw [beq_eq_false_iff_ne]; omega
  simp [h1, h2]
theorem plain_loc {x : I} (h : plain x) (n i : Nat) : loc n i x = 0 := by
  unfold plain at h
  unfold loc
  rw [if_neg (by omega), if_neg (by omega), if_neg (by omega), if_neg (by omega), if_neg (by omega), if_neg (by omega)]
theorem loc_shift (m n i : Nat) (x : I) : loc (m + n) (m + i) x = loc n i x := by
  unfold loc
  have e1 : (((m + n : Nat) : Int) ≤ ((m + i : Nat) : Int) + 1 + x.2.2.2) ↔ ((n : Int) ≤ i + 1 + x.2.2.2) := by omega
  have e2 : (((m + n : Nat) : Int) ≤ ((m + i : Nat) : Int) + 1 + x.2.1) ↔ ((n : Int) ≤ i + 1 + x.2.1) := by omega
  have e3 : (((m + n : Nat) : Int) ≤ ((m + i : Nat) : Int) + 1 + x.2.2.1) ↔ ((n : Int) ≤ i + 1 + x.2.2.1) := by omega
  simp only [e1, e2, e3]
theorem nxt_shift (m i : Nat) (x : I) : nxt (m + i) x = (nxt i x).map (m + ·) := by
  unfold nxt
  split
  · simp; omega
  · split
    · simp; omega
    · split
      · rfl
      · simp; omega
theorem get_behind (a l : List I) {i : Nat} (h : i < l.length) : (a ++ l)[a.length + i]'(by simp; omega) = l[i] := by
  rw [List.getElem_append_right (by omega)]
  simp
/-- behind plain ones a place is come to just as it was -/
theorem Bare.ahead {a l : List I} (ha : ∀ x ∈ a, plain x) {w : Int} : ∀ i, i ≤ a.length → 0 < l.length → Bare (a ++ l) w i := by
  intro i
  induction i with
  | zero => intro _ h; exact Bare.zero (by simp; omega)
  | succ i ih =>
    intro hi h
    have hl : i < (a ++ l).length := by simp; omega
    have e : (a ++ l)[i] = a[i]'(by omega) := List.getElem_append_left (by omega)
    have hp := ha _ (List.getElem_mem (show i < a.length by omega))
    refine Bare.step hl (ih (by omega) h) (by rw [e]; exact plain_wr hp w) (by rw [e, plain_nxt hp]; simp) (by simp; omega)
theorem Bare.behind {a l : List I} (ha : ∀ x ∈ a, plain x) {w : Int} {i : Nat} (h : Bare l w i) : Bare (a ++ l) w (a.length + i) := by
  refine Bare.ind (P := fun i => Bare (a ++ l) w (a.length + i)) (fun h => Bare.ahead ha a.length (Nat.le_refl _) h) (fun i j h hi ih hw hj hl => ?_) h
  have e := get_behind a l h
  exact Bare.step (i := a.length + i) (by simp; omega) ih (by rw [e]; exact hw) (by rw [e, nxt_shift]; exact List.mem_map.2 ⟨j, hj, rfl⟩) (by simp; omega)
theorem Bare.back {a l : List I} (ha : ∀ x ∈ a, plain x) {w : Int} {j : Nat} (h : Bare (a ++ l) w j) : ∀ i, j = a.length + i → Bare l w i := by
  refine Bare.ind (P := fun j => ∀ i, j = a.length + i → Bare l w i) (fun h i hi => ?_) (fun p j h hp ih hw hj hl i hi => ?_) h
  · obtain ⟨rfl, h0⟩ : i = 0 ∧ a.length = 0 := by omega
    exact Bare.zero (by simpa [h0] using h)
  · subst hi
    by_cases hpa : p < a.length
    · have e : (a ++ l)[p] = a[p]'hpa := List.getElem_append_left hpa
      rw [e, plain_nxt (ha _ (List.getElem_mem hpa))] at hj
      simp at hj
      obtain rfl : i = 0 := by omega
      exact Bare.zero (by simp at hl; omega)
    · obtain ⟨q, rfl⟩ : ∃ q, p = a.length + q := ⟨p - a.length, by omega⟩
      have hq : q < l.length := by simp at h; omega
      have e := get_behind a l hq
      rw [e] at hw hj
      rw [nxt_shift] at hj
      obtain ⟨r, hr, er⟩ := List.mem_map.1 hj
      have : r = i := by omega
      subst this
      exact Bare.step hq (ih q rfl) hw hr (by simp at hl; omega)
theorem bare_behind {a l : List I} (ha : ∀ x ∈ a, plain x) (w : Int) (i : Nat) : bare (a ++ l) w (a.length + i) = bare l w i := by
  rw [Bool.eq_iff_iff, bare_iff, bare_iff]
  exact ⟨fun h => h.back ha i rfl, fun h => h.behind ha⟩
theorem right_behind {a l : List I} (ha : ∀ x ∈ a, plain x) (hn : a.length + l.length ≤ 4096) : right (a ++ l) ↔ right l := by
  rw [right_iff, right_iff]
  have hlen : (a ++ l).length = a.length + l.length := List.length_append
  by_cases hl : l = []
  · subst hl
    simp only [List.append_nil, List.length_nil, Nat.lt_irrefl, false_and, iff_false]
    rintro ⟨⟨h1, _⟩, _, h3, _⟩
    have hlt : a.length - 1 < a.length := by omega
    rw [List.getD_eq_getElem?_getD, List.getElem?_eq_getElem hlt] at h3
    simp only [Option.getD_some] at h3
    rw [plain_rets (ha _ (List.getElem_mem hlt))] at h3
    cases h3
  · have hpos := List.length_pos_iff.2 hl
    have hlast : (a ++ l).getD ((a ++ l).length - 1) (0, 0, 0, 0) = l.getD (l.length - 1) (0, 0, 0, 0) := by
      rw [List.getD_eq_getElem?_getD, List.getD_eq_getElem?_getD, hlen, List.getElem?_append_right (by omega)]
      congr 2; omega
    have hw : ∀ i, i < l.length → wrong (a ++ l) (a.length + i) = wrong l i := by
      intro i hi
      unfold wrong
      rw [List.getElem?_append_right (by omega), show a.length + i - a.length = i by omega, List.getElem?_eq_getElem hi]
      simp only
      rw [hlen, loc_shift]
    have hr : ∀ i, i < l.length → raw (a ++ l) (a.length + i) = raw l i := by
      intro i hi
      unfold raw
      rw [List.getElem?_append_right (by omega), show a.length + i - a.length = i by omega, List.getElem?_eq_getElem hi]
      simp only
      rw [bare_behind ha]
    have hwa : ∀ i, i < a.length → wrong (a ++ l) i = false := by
      intro i hi
      unfold wrong
      rw [List.getElem?_append_left hi, List.getElem?_eq_getElem hi]
      simp only
      rw [plain_loc (ha _ (List.getElem_mem hi))]; rfl
    have hra : ∀ i, i < a.length → raw (a ++ l) i = false := by
      intro i hi
      unfold raw
      rw [List.getElem?_append_left hi, List.getElem?_eq_getElem hi]
      simp only
      rw [plain_rd (ha _ (List.getElem_mem hi))]; rfl
    rw [hlast, hlen]
    constructor
    · rintro ⟨_, h2, h3, h4⟩
      exact ⟨⟨hpos, by omega⟩, fun i hi => by rw [← hw i hi]; exact h2 _ (by omega), h3, fun i hi => by rw [← hr i hi]; exact h4 _ (by omega)⟩
    · rintro ⟨_, h2, h3, h4⟩
      refine ⟨⟨by omega, hn⟩, fun i hi => ?_, h3, fun i hi => ?_⟩
      · by_cases hia : i < a.length
        · exact hwa i hia
        · have := hw (i - a.length) (by omega)
          rw [show a.length + (i - a.length) = i by omega] at this
          rw [this]; exact h2 _ (by omega)
      · by_cases hia : i < a.length
        · exact hra i hia
        · have := hr (i - a.length) (by omega)
          rw [show a.length + (i - a.length) = i by omega] at this
          rw [this]; exact h4 _ (by omega)

/-- one more behind: what was right alone is -/
theorem loc_more {n i : Nat} {x : I} (h : loc n i x = 0) : loc (n + 1) i x = 0 := by
  unfold loc at *
  split at h
  · simp at h
  · rw [if_neg (by assumption)]
    split at h
    · rw [if_pos (by assumption)]; exact h
    · rw [if_neg (by assumption)]
      split at h
      · rw [if_pos (by assumption)]; exact h
      · rw [if_neg (by assumption)]
        split at h
        · rw [if_pos (by assumption)]; exact h
        · rw [if_neg (by assumption)]
          split at h
          · rw [if_pos (by assumption)]
            split at h
            · simp at h
            · rw [if_neg (by omega)]
          · rw [if_neg (by assumption)]
            split at h
            · rw [if_pos (by assumption)]
              split at h
              · simp at h
              · rw [if_neg (by omega)]
            · rw [if_neg (by assumption)]
theorem Bare.fewer {l : List I} {r : I} {w : Int} {i : Nat} (h : Bare (l ++ [r]) w i) : i < l.length → Bare l w i := by
  refine Bare.ind (P := fun i => i < l.length → Bare l w i) (fun _ h => Bare.zero h) (fun p j h hp ih hw hj hl hj' => ?_) h
  have hpj := nxt_gt hj
  have hpl : p < l.length := by omega
  have e : (l ++ [r])[p] = l[p] := List.getElem_append_left hpl
  rw [e] at hw hj
  exact Bare.step hpl (ih hpl) hw hj hj'
theorem right_more {l : List I} {r : I} (hr : rets r = true) (hk : kind r.1 = 13 ∨ kind r.1 = 14) (h : right l) (hn : l.length < 4096) : right (l ++ [r]) := by
  rw [right_iff] at *
  obtain ⟨⟨h1, h2⟩, h3, h4, h5⟩ := h
  have hlen : (l ++ [r]).length = l.length + 1 := by simp
  have hloc : ∀ n i, loc n i r = 0 := by
    intro n i
    unfold loc
    rw [if_neg (by omega), if_neg (by omega), if_neg (by omega), if_neg (by omega), if_neg (by omega), if_neg (by omega)]
  refine ⟨by omega, fun i hi => ?_, ?_, fun i hi => ?_⟩
  · unfold wrong
    by_cases hil : i < l.length
    · have := h3 i hil
      unfold wrong at this
      rw [List.getElem?_eq_getElem hil] at this
      rw [List.getElem?_append_left hil, List.getElem?_eq_getElem hil]
      simp only [bne_eq_false_iff_eq] at this ⊢
      rw [hlen]; exact loc_more this
    · obtain rfl : i = l.length := by omega
      rw [List.getElem?_append_right (by omega)]
      simp [hloc]
  · rw [hlen, List.getD_eq_getElem?_getD, List.getElem?_append_right (by omega)]
    simp [hr]
  · unfold raw
    by_cases hil : i < l.length
    · have := h5 i hil
      unfold raw at this
      rw [List.getElem?_eq_getElem hil] at this
      rw [List.getElem?_append_left hil, List.getElem?_eq_getElem hil]
      simp only at this ⊢
      rw [Bool.and_eq_false_iff] at this ⊢
      rcases this with this | this
      · exact Or.inl this
      · right
        rw [← Bool.not_eq_true] at this ⊢
        intro hb
        rw [bare_iff] at hb
        exact this ((bare_iff _ _ _).2 (hb.fewer hil))
    · obtain rfl : i = l.length := by omega
      rw [List.getElem?_append_right (by omega)]
      have : rdW r = false := by
        unfold rdW
        have h1 : (kind r.1 == 4) = false := by rw [beq_eq_false_iff_ne]; omega
        have h2 : (kind r.1 == 6) = false := by rw [beq_eq_false_iff_ne]; omega
        simp [h1, h2]
      simp [this]

/-- on a way through a filter: what is not written yet is bare there -/
def Way (l : List I) (p : Nat) (written : Int → Prop) : Prop := p < l.length ∧ ∀ w, ¬ written w → Bare l w p
theorem Way.start {l : List I} (h : 0 < l.length) : Way l 0 (fun _ => False) := ⟨h, fun w _ => Bare.zero h⟩
theorem Way.reads {l : List I} (hr : right l) {p : Nat} {written : Int → Prop} (h : Way l p written) (hd : rdW (l[p]'h.1) = true) : written (l[p]'h.1).2.2.2 := by
  have h5 := ((right_iff l).1 hr).2.2.2 p h.1
  unfold raw at h5
  rw [List.getElem?_eq_getElem h.1] at h5
  simp only at h5
  rw [hd, Bool.true_and, ← Bool.not_eq_true, bare_iff] at h5
  exact Classical.byContradiction fun hw => h5 (h.2 _ hw)
theorem Way.on {l : List I} (hr : right l) {p q : Nat} {written written' : Int → Prop} (h : Way l p written) (hq : q ∈ nxt p (l[p]'h.1)) (hw : ∀ w, ¬ written' w → ¬ written w ∧ wrW w (l[p]'h.1) = false) (ok : ∀ x ∈ l, okI x) : p < q ∧ Way l q written' := by
  have hgt := nxt_gt hq
  obtain ⟨⟨h1, h2⟩, h3, h4, h5⟩ := (right_iff l).1 hr
  have hloc := h3 p h.1
  unfold wrong at hloc
  rw [List.getElem?_eq_getElem h.1] at hloc
  simp only [bne_eq_false_iff_eq] at hloc
  have hok := ok _ (List.getElem_mem h.1)
  obtain ⟨_, ⟨t0, _⟩, ⟨f0, _⟩, ⟨k0, _⟩⟩ := hok
  have hql : q < l.length := by
    unfold nxt at hq
    split at hq
    · rename_i hk
      simp only [List.mem_singleton] at hq
      unfold loc at hloc
      rw [if_neg (by omega), if_neg (by omega), if_neg (by omega), if_neg (by omega), if_pos hk] at hloc
      split at hloc
      · simp at hloc
      · omega
    · split at hq
      · rename_i hk
        simp only [List.mem_cons, List.not_mem_nil, or_false] at hq
        unfold loc at hloc
        rw [if_neg (by omega), if_neg (by omega), if_neg (by omega), if_neg (by omega), if_neg (by omega), if_pos hk] at hloc
        split at hloc
        · simp at hloc
        · omega
      · split at hq
        · simp at hq
        · rename_i hk
          simp only [List.mem_singleton] at hq
          subst hq
          rcases Nat.lt_or_ge (p + 1) l.length with hlt | hge
          · exact hlt
          · exfalso
            have hp1 : p = l.length - 1 := by have := h.1; omega
            rw [List.getD_eq_getElem?_getD, ← hp1, List.getElem?_eq_getElem h.1] at h4
            simp only [Option.getD_some, rets, Bool.or_eq_true, beq_iff_eq] at h4
            omega
  exact ⟨hgt, hql, fun w hw' => Bare.step h.1 (h.2 w (hw w hw').1) (hw w hw').2 hq hql⟩
end Go.Proofs.Ytfmlefadifpocaa.M
namespace Go.Proofs.Ytfmlefadifpocaa.M
def ldE (k : Int) : Int := if 64 ≤ k ∨ k % 4 ≠ 0 then 11 else 0
def scE (k : Int) : Int := if 16 ≤ k then 10 else 0
def rkE (c k : Int) : Int := if c / 8 % 2 = 1 then 0 else if c / 16 % 16 * 16 = 48 then (if k = 0 then 8 else 0) else if c / 16 % 16 * 16 = 96 ∨ c / 16 % 16 * 16 = 112 then (if 32 ≤ k then 9 else 0) else 0
def jpE (n i : Nat) (d : Int) : Int := if (n : Int) ≤ i + 1 + d then 7 else 0
def lnE (n : Nat) : Int := if n = 0 then 4 else if 4096 < n then 5 else 0
def bitI (k : Int) : Int := 2 ^ k.toNat
def stW (c k : Int) : Int := if kind c = 8 ∨ kind c = 9 then bitI k else 0
def ldW (c k : Int) : Int := if kind c = 4 ∨ kind c = 6 then bitI k else 0
end Go.Proofs.Ytfmlefadifpocaa.M
namespace Go.Proofs.Ytfmlefadifpocaa.B
open Go.ChangeShapes Go.WideShapes Go.ChangeAt Go.RowKit
set_option linter.unusedVariables false

set_option maxHeartbeats 1600000 in
set_option maxRecDepth 100000 in
theorem target_any (i : Nat) (d : Int) (hi : i ≤ 65536) (hd : 0 ≤ d ∧ d < 4294967296) (w : World) :
    Calls Try.prog 61 #[.int .i64 i, .int .u32 d] w fun e w' => e = .returned (.int .u64 (i + 1 + d)) ∧ w' = w := by
  go_enter Try.func61, Try.ntmps61
  go_wp2
  go_ret
  exact ⟨rfl, rfl⟩

set_option maxHeartbeats 1600000 in
set_option maxRecDepth 100000 in
theorem length_any (a : Option Addr) (n cap : Nat) (hn : n ≤ 9223372036854775807) (w : World) :
    Calls Try.prog 36 #[.slice a n cap] w fun e w' => e = .returned (.int .i64 (M.lnE n)) ∧ w' = w := by
  by_cases h : n = 0
  · subst h
    go_enter Try.func36, Try.ntmps36
    go_wp2
    go_ret
    exact ⟨rfl, rfl⟩
  · have c1 : ((n : Int) == 0) = false := beq_eq_false_iff_ne.2 (by omega)
    by_cases h2 : 4096 < n
    · have c2 : decide (4096 < (n : Int)) = true := decide_eq_true (by omega)
      have HP : Hid (M.lnE n = 5) := by unfold M.lnE; rw [if_neg h, if_pos h2]; trivial
      clear h h2
      go_enter Try.func36, Try.ntmps36
      go_wp2
      go_ret
      exact ⟨by rw [HP.out]; rfl, rfl⟩
    · have c2 : decide (4096 < (n : Int)) = false := decide_eq_false (by omega)
      have HP : Hid (M.lnE n = 0) := by unfold M.lnE; rw [if_neg h, if_neg h2]; trivial
      clear h h2
      go_enter Try.func36, Try.ntmps36
      go_wp2
      go_ret
      exact ⟨by rw [HP.out]; rfl, rfl⟩

set_option maxHeartbeats 1600000 in
set_option maxRecDepth 100000 in
theorem scratch_any (c t f k : Int) (w : World) :
    Calls Try.prog 53 #[.agg #[.int .u16 c, .int .u8 t, .int .u8 f, .int .u32 k]] w fun e w' => e = .returned (.int .i64 (M.scE k)) ∧ Below w.heap.size w w' := by
  rcases hA : decide (16 ≤ k) with _ | _
  · have HP : Hid (M.scE k = 0) := by unfold M.scE; rw [if_neg (of_decide_eq_false hA)]; trivial
    go_enter Try.func53, Try.ntmps53
    go_wp2
    go_ret
    exact ⟨by rw [HP.out]; rfl, al _ _⟩
  · have HP : Hid (M.scE k = 10) := by unfold M.scE; rw [if_pos (of_decide_eq_true hA)]; trivial
    go_enter Try.func53, Try.ntmps53
    go_wp2
    go_ret
    exact ⟨by rw [HP.out]; rfl, al _ _⟩

theorem zero_enc : RB.enc R.zero = #[.int .u32 0, .int .u32 0, .int .u32 0, .int .u32 0, .int .u32 0, .int .u32 0, .int .u32 0, .int .u32 0, .int .u32 0, .int .u32 0, .int .u32 0, .int .u32 0, .int .u32 0, .int .u32 0, .int .u32 0, .int .u32 0] := rfl
theorem okzero : R.okR R.zero := by
  refine ⟨rfl, fun i => ?_⟩
  have := R.at_zero i
  unfold R.at_ at this
  rw [this]; omega
set_option maxHeartbeats 1600000 in
set_option maxRecDepth 100000 in
theorem vload_any (c t f k : Int) (ok : M.okI (c, t, f, k)) (w : World) :
    Calls Try.prog 52 #[.agg #[.int .u16 c, .int .u8 t, .int .u8 f, .int .u32 k]] w fun e w' => e = .returned (.int .i64 (M.ldE k)) ∧ Below w.heap.size w w' := by
  have hL := fun w => RB.load_any R.zero okzero k ok.2.2.2 w
  rw [zero_enc] at hL
  have hE : M.ldE k = if R.isL k then 0 else 11 := by
    unfold M.ldE R.isL
    by_cases h : 64 ≤ k ∨ k % 4 ≠ 0
    · rw [if_pos h, decide_eq_false (by have := ok.2.2.2; simp only at this; omega)]; rfl
    · rw [if_neg h, decide_eq_true (by have := ok.2.2.2; simp only at this; omega)]; rfl
  have HE := hid hE
  clear hE
  go_enter Try.func52, Try.ntmps52
  go_wp2_with fail
  refine (hL _).mono ?_
  rintro e w1 ⟨rfl, hb⟩
  have hB := al_stp (hid (Below.refl w.heap.size w)) hb
  clear hb hL
  generalize R.isL k = b at *
  cases b
  all_goals
    go_wp2
    go_ret
    exact ⟨by rw [HE.out]; rfl, hB.out⟩

set_option maxHeartbeats 1600000 in
set_option maxRecDepth 100000 in
theorem reckoning_any (c t f k : Int) (ok : M.okI (c, t, f, k)) (w : World) :
    Calls Try.prog 54 #[.agg #[.int .u16 c, .int .u8 t, .int .u8 f, .int .u32 k]] w fun e w' => e = .returned (.int .i64 (M.rkE c k)) ∧ Below w.heap.size w w' := by
  have HX := hid (fun w => fromx_any c t f k ok w)
  have HO := hid (fun w => op_any c t f k ok w)
  have hR : M.rkE c k = if decide (c / 8 % 2 = 1) = true then 0 else if (c / 16 % 16 * 16 == 48) = true then (if (k == 0) = true then 8 else 0) else if (c / 16 % 16 * 16 == 96) = true then (if decide (32 ≤ k) = true then 9 else 0) else if (c / 16 % 16 * 16 == 112) = true then (if decide (32 ≤ k) = true then 9 else 0) else 0 := by
    unfold M.rkE
    simp only [decide_eq_true_eq, beq_iff_eq]
    repeat' split
    all_goals first | rfl | omega
  have HR := hid hR
  clear hR
  obtain ⟨x, hx⟩ : ∃ x, decide (c / 8 % 2 = 1) = x := ⟨_, rfl⟩
  rw [hx] at HX HR
  clear hx
  generalize c / 16 % 16 * 16 = o at *
  have c1 : x = true ∨ x = false ∧ ((o == 48) = true ∧ ((k == 0) = true ∨ (k == 0) = false) ∨ (o == 48) = false ∧ ((o == 96) = true ∧ (decide (32 ≤ k) = true ∨ decide (32 ≤ k) = false) ∨ (o == 96) = false ∧ ((o == 112) = true ∧ (decide (32 ≤ k) = true ∨ decide (32 ≤ k) = false) ∨ (o == 112) = false))) := by
    cases x <;> cases (o == 48) <;> cases (k == 0) <;> cases (o == 96) <;> cases (o == 112) <;> cases decide (32 ≤ k) <;> simp
  rcases c1 with rfl | ⟨rfl, ⟨h1, h2 | h2⟩ | ⟨h1, ⟨h2, h3 | h3⟩ | ⟨h2, ⟨h3, h4 | h4⟩ | h3⟩⟩⟩
  all_goals
    simp only [*, if_true, Bool.false_eq_true, if_false] at HR
    go_enter Try.func54, Try.ntmps54
    go_wp2_with fail
    refine (HX.out _).mono ?_
    rintro e w1 ⟨rfl, hb⟩
    obtain ⟨a0, a1, a2, a3, _⟩ := ((At.new w c t f k).below hb).cells
    have hB := al_stp (hid (Below.refl w.heap.size w)) hb
    have hs : w.heap.size < w1.heap.size := by have := hb.size; simp at this; omega
    clear hb
    go_wp2_with (go_at_call 64; refine (HO.out _).mono ?_; rintro e w2 ⟨rfl, hb⟩; have b0 := (hb.cell (p := ⟨w.heap.size, 3, none⟩) hs).trans a3; replace hB := stp hB hb; clear hb a0 a1 a2 a3 hs)
    go_ret
    exact ⟨by rw [HR.out]; rfl, hB.out⟩

set_option maxHeartbeats 1600000 in
set_option maxRecDepth 100000 in
theorem jump_any (a : Option Addr) (n cap i : Nat) (d : Int) (hn : n ≤ 65536) (hi : i ≤ 65536) (hd : 0 ≤ d ∧ d < 4294967296) (w : World) :
    Calls Try.prog 55 #[.slice a n cap, .int .i64 i, .int .u32 d] w fun e w' => e = .returned (.int .i64 (M.jpE n i d)) ∧ w' = w := by
  rcases hA : decide ((n : Int) ≤ i + 1 + d) with _ | _
  · have HP : Hid (M.jpE n i d = 0) := by unfold M.jpE; rw [if_neg (of_decide_eq_false hA)]; trivial
    go_enter Try.func55, Try.ntmps55
    go_wp2_with (go_at_call 61; refine (target_any _ _ hi hd _).mono ?_; rintro e w1 ⟨rfl, rfl⟩)
    go_ret
    exact ⟨by rw [HP.out]; rfl, rfl⟩
  · have HP : Hid (M.jpE n i d = 7) := by unfold M.jpE; rw [if_pos (of_decide_eq_true hA)]; trivial
    go_enter Try.func55, Try.ntmps55
    go_wp2_with (go_at_call 61; refine (target_any _ _ hi hd _).mono ?_; rintro e w1 ⟨rfl, rfl⟩)
    go_ret
    exact ⟨by rw [HP.out]; rfl, rfl⟩
end Go.Proofs.Ytfmlefadifpocaa.B
namespace Go.Proofs.Ytfmlefadifpocaa.M
theorem alu_code : ∀ c ∈ codes, kind c = 10 → (c = 52 ↔ ¬ c / 8 % 2 = 1 ∧ c / 16 % 16 * 16 = 48) ∧ ((c = 100 ∨ c = 116) ↔ ¬ c / 8 % 2 = 1 ∧ (c / 16 % 16 * 16 = 96 ∨ c / 16 % 16 * 16 = 112)) := by decide
theorem in_codes {c : Int} (h : kind c ≠ 0) : c ∈ codes := by
  by_cases hc : c ∈ codes
  · exact hc
  · exact absurd (kind_none hc) h
theorem loc0 {n i : Nat} {c t f k : Int} (h : kind c = 0) : loc n i (c, t, f, k) = 6 := by unfold loc; rw [if_pos h]
theorem loc1 {n i : Nat} {c t f k : Int} (h : kind c = 1) : loc n i (c, t, f, k) = ldE k := by unfold loc ldE; simp [h]
theorem loc4 {n i : Nat} {c t f k : Int} (h : kind c = 4 ∨ kind c = 6 ∨ kind c = 8 ∨ kind c = 9) : loc n i (c, t, f, k) = scE k := by
  unfold loc scE
  simp only
  rw [if_neg (by omega), if_neg (by omega), if_pos h]
theorem loc10 {n i : Nat} {c t f k : Int} (h : kind c = 10) : loc n i (c, t, f, k) = rkE c k := by
  have hc := alu_code c (in_codes (by omega)) h
  unfold loc rkE
  simp only
  rw [if_neg (by omega), if_neg (by omega), if_neg (by omega), if_pos h]
  simp only [hc.1, hc.2]
  by_cases h1 : c / 8 % 2 = 1
  · simp [h1]
  · by_cases h2 : c / 16 % 16 * 16 = 48
    · by_cases h3 : k = 0
      · simp [h1, h2, h3]
      · simp [h1, h2, h3]
    · by_cases h3 : c / 16 % 16 * 16 = 96 ∨ c / 16 % 16 * 16 = 112
      · simp [h1, h2, h3]
      · simp [h1, h2, h3]
theorem loc11 {n i : Nat} {c t f k : Int} (h : kind c = 11) : loc n i (c, t, f, k) = jpE n i k := by
  unfold loc jpE
  simp only
  rw [if_neg (by omega), if_neg (by omega), if_neg (by omega), if_neg (by omega), if_pos h]
theorem loc12 {n i : Nat} {c t f k m : Int} (h : kind c = 12) (hm : (m = t ∨ m = f) ∧ t ≤ m ∧ f ≤ m) : loc n i (c, t, f, k) = jpE n i m := by
  unfold loc jpE
  simp only
  rw [if_neg (by omega), if_neg (by omega), if_neg (by omega), if_neg (by omega), if_neg (by omega), if_pos h]
  by_cases h1 : (n : Int) ≤ i + 1 + m
  · rw [if_pos h1, if_pos (by omega)]
  · rw [if_neg h1, if_neg (by omega)]
theorem loc_else {n i : Nat} {c t f k : Int} (h : kind c ≠ 0 ∧ kind c ≠ 1 ∧ kind c ≠ 4 ∧ kind c ≠ 6 ∧ kind c ≠ 8 ∧ kind c ≠ 9 ∧ kind c ≠ 10 ∧ kind c ≠ 11 ∧ kind c ≠ 12) : loc n i (c, t, f, k) = 0 := by
  unfold loc
  simp only
  rw [if_neg (by omega), if_neg (by omega), if_neg (by omega), if_neg (by omega), if_neg (by omega), if_neg (by omega)]
end Go.Proofs.Ytfmlefadifpocaa.M
namespace Go.Proofs.Ytfmlefadifpocaa.B
open Go.ChangeShapes Go.WideShapes Go.ChangeAt Go.RowKit
set_option linter.unusedVariables false

theorem wrap_bit {k : Int} (h : k < 16) : IntKind.u16.wrap (2 ^ min k.toNat 16) = M.bitI k := by
  unfold M.bitI
  rw [Nat.min_eq_left (by omega)]
  rw [IntKind.wrap_u16]
  have h1 : (2 : Int) ^ k.toNat < 65536 := by
    have : (2 : Nat) ^ k.toNat < 2 ^ 16 := Nat.pow_lt_pow_right (by omega) (by omega)
    have h2 : ((2 ^ k.toNat : Nat) : Int) = (2 : Int) ^ k.toNat := by simp
    omega
  have h0 : (0 : Int) ≤ 2 ^ k.toNat := Int.le_of_lt (Int.pow_pos (by omega))
  generalize (2 : Int) ^ k.toNat = x at *
  omega
set_option maxHeartbeats 1600000 in
set_option maxRecDepth 100000 in
theorem stored_any (c t f k : Int) (ok : M.okI (c, t, f, k)) (h : M.kind c = 8 ∨ M.kind c = 9 → k < 16) (w : World) :
    Calls Try.prog 60 #[.agg #[.int .u16 c, .int .u8 t, .int .u8 f, .int .u32 k]] w fun e w' => e = .returned (.int .u16 (M.stW c k)) ∧ Below w.heap.size w w' := by
  have b3 : 0 ≤ k := ok.2.2.2.1
  have HK := hid h
  clear h
  go_enter Try.func60, Try.ntmps60
  go_wp2_with fail
  refine (kind_any _ _).mono ?_
  rintro e w1 ⟨rfl, rfl⟩
  go_wp2
  all_goals go_ret
  · rename_i h
    have e := eq_of_beq h
    exact ⟨by unfold M.stW; rw [if_pos (Or.inl e), ← wrap_bit (HK.out (Or.inl e))]; rfl, al _ _⟩
  · rename_i h
    have e := eq_of_beq h
    exact ⟨by unfold M.stW; rw [if_pos (Or.inr e), ← wrap_bit (HK.out (Or.inr e))]; rfl, al _ _⟩
  · rename_i h1 h2
    rw [beq_eq_false_iff_ne] at h1 h2
    exact ⟨by unfold M.stW; rw [if_neg (by omega)]; rfl, al _ _⟩
set_option maxHeartbeats 1600000 in
set_option maxRecDepth 100000 in
theorem loaded_any (c t f k : Int) (ok : M.okI (c, t, f, k)) (h : M.kind c = 4 ∨ M.kind c = 6 → k < 16) (w : World) :
    Calls Try.prog 51 #[.agg #[.int .u16 c, .int .u8 t, .int .u8 f, .int .u32 k]] w fun e w' => e = .returned (.int .u16 (M.ldW c k)) ∧ Below w.heap.size w w' := by
  have b3 : 0 ≤ k := ok.2.2.2.1
  have HK := hid h
  clear h
  go_enter Try.func51, Try.ntmps51
  go_wp2_with fail
  refine (kind_any _ _).mono ?_
  rintro e w1 ⟨rfl, rfl⟩
  go_wp2
  all_goals go_ret
  · rename_i h
    have e := eq_of_beq h
    exact ⟨by unfold M.ldW; rw [if_pos (Or.inl e), ← wrap_bit (HK.out (Or.inl e))]; rfl, al _ _⟩
  · rename_i h
    have e := eq_of_beq h
    exact ⟨by unfold M.ldW; rw [if_pos (Or.inr e), ← wrap_bit (HK.out (Or.inr e))]; rfl, al _ _⟩
  · rename_i h1 h2
    rw [beq_eq_false_iff_ne] at h1 h2
    exact ⟨by unfold M.ldW; rw [if_neg (by omega)]; rfl, al _ _⟩

set_option maxHeartbeats 1600000 in
set_option maxRecDepth 100000 in
theorem local_out (a : Option Addr) (n cap : Nat) (i : Int) (hn : n ≤ 65536) (hi : i < 0 ∨ (n : Int) ≤ i) (w : World) :
    Calls Try.prog 40 #[.slice a n cap, .int .i64 i] w fun e w' => e = .returned (.int .i64 2) ∧ w' = w := by
  by_cases h : i < 0
  · have d : decide (i < 0) = true := decide_eq_true h
    go_enter Try.func40, Try.ntmps40
    go_wp2
    go_ret
    exact ⟨rfl, rfl⟩
  · have d : decide (i < 0) = false := decide_eq_false h
    have d2 : decide ((n : Int) ≤ i) = true := decide_eq_true (by omega)
    go_enter Try.func40, Try.ntmps40
    go_wp2
    go_ret
    exact ⟨rfl, rfl⟩

set_option maxHeartbeats 3200000 in
set_option maxRecDepth 100000 in
theorem local_at (b o n cap j : Nat) (c t f k : Int) (hn : n ≤ 65536) (hj : j < n) (ok : M.okI (c, t, f, k)) (w : World) (hl : LiesAt w b o j (c, t, f, k)) :
    Calls Try.prog 40 #[.slice (some ⟨b, o, none⟩) n cap, .int .i64 j] w fun e w' => e = .returned (.int .i64 (M.loc n j (c, t, f, k))) ∧ Below w.heap.size w w' := by
  obtain ⟨p0, p1, p2, p3⟩ := hl
  simp only at p0 p1 p2 p3
  have i1 : (j : Int) < (n : Int) := by omega
  have b1 : 0 ≤ t ∧ t < 256 := ok.2.1
  have b2 : 0 ≤ f ∧ f < 256 := ok.2.2.1
  have HO := hid ok
  clear ok
  have HA := hid (al w (.cells #[.int .u16 c, .int .u8 t, .int .u8 f, .int .u32 k] 38))
  go_enter Try.func40, Try.ntmps40
  go_wp2_with fail
  refine (kind_any _ _).mono ?_
  rintro e w1 ⟨rfl, rfl⟩
  go_wp2_with (first
    | (go_at_call 52; refine (vload_any _ _ _ _ HO.out _).mono ?_; rintro e w1 ⟨rfl, hb⟩; have HA := stp HA hb; clear hb)
    | (go_at_call 53; refine (scratch_any _ _ _ _ _).mono ?_; rintro e w1 ⟨rfl, hb⟩; have HA := stp HA hb; clear hb)
    | (go_at_call 54; refine (reckoning_any _ _ _ _ HO.out _).mono ?_; rintro e w1 ⟨rfl, hb⟩; have HA := stp HA hb; clear hb)
    | (go_at_call 55; refine (jump_any _ _ _ _ _ hn (by omega) (by have := HO.out.2.2.2; simp only at this; first | exact this | omega) _).mono ?_; rintro e w1 ⟨rfl, rfl⟩))
  all_goals go_ret
  · have e : M.kind c = 0 := eq_of_beq (by assumption)
    exact ⟨by rw [M.loc0 e]; rfl, HA.out⟩
  · have e : M.kind c = 1 := eq_of_beq (by assumption)
    exact ⟨by rw [M.loc1 e]; rfl, HA.out⟩
  · have e : M.kind c = 4 := eq_of_beq (by assumption)
    exact ⟨by rw [M.loc4 (Or.inl e)]; rfl, HA.out⟩
  · have e : M.kind c = 6 := eq_of_beq (by assumption)
    exact ⟨by rw [M.loc4 (by omega)]; rfl, HA.out⟩
  · have e : M.kind c = 8 := eq_of_beq (by assumption)
    exact ⟨by rw [M.loc4 (by omega)]; rfl, HA.out⟩
  · have e : M.kind c = 9 := eq_of_beq (by assumption)
    exact ⟨by rw [M.loc4 (by omega)]; rfl, HA.out⟩
  · have e : M.kind c = 10 := eq_of_beq (by assumption)
    exact ⟨by rw [M.loc10 e]; rfl, HA.out⟩
  · have e : M.kind c = 11 := eq_of_beq (by assumption)
    exact ⟨by rw [M.loc11 e]; rfl, HA.out⟩
  · have e : M.kind c = 12 := eq_of_beq (by assumption)
    exact ⟨by rw [M.loc12 (m := f) e (by omega)]; rfl, HA.out⟩
  · have e : M.kind c = 12 := eq_of_beq (by assumption)
    exact ⟨by rw [M.loc12 (m := t) e (by omega)]; rfl, HA.out⟩
  · rename_i h0 h1 h2 h3 h4 h5 h6 h7 h8
    rw [beq_eq_false_iff_ne] at h0 h1 h2 h3 h4 h5 h6 h7 h8
    exact ⟨by rw [M.loc_else (by omega)]; rfl, HA.out⟩
end Go.Proofs.Ytfmlefadifpocaa.B
namespace Go.Proofs.Ytfmlefadifpocaa.M
def wa (l : List I) : Nat × Int := match firstOf l.length (wrong l) with
  | some i => (i, loc l.length i (l.getD i (0, 0, 0, 0)))
  | none => (0, 0)
theorem wrong_at {l : List I} {i : Nat} (h : i < l.length) : wrong l i = (loc l.length i l[i] != 0) := by
  unfold wrong
  rw [List.getElem?_eq_getElem h]
theorem wa_some {l : List I} {i : Nat} (h : i < l.length) (hz : loc l.length i l[i] ≠ 0) (ha : ∀ j, j < i → wrong l j = false) : wa l = (i, loc l.length i l[i]) := by
  unfold wa
  rw [first_some.2 ⟨h, by rw [wrong_at h]; simpa using hz, ha⟩]
  simp [List.getD_eq_getElem?_getD, List.getElem?_eq_getElem h]
theorem wa_none {l : List I} (ha : ∀ j, j < l.length → wrong l j = false) : wa l = (0, 0) := by
  unfold wa
  rw [first_none.2 ha]
theorem wa_lt {l : List I} (h : 0 < l.length) : (wa l).1 < l.length := by
  unfold wa
  split
  · rename_i i e; exact (first_some.1 e).1
  · exact h
theorem wa_zero {l : List I} (h : (wa l).2 = 0) : ∀ j, j < l.length → wrong l j = false := by
  unfold wa at h
  split at h
  · rename_i i e
    have := (first_some.1 e)
    rw [wrong_at this.1] at this
    simp only [List.getD_eq_getElem?_getD, List.getElem?_eq_getElem this.1, Option.getD_some] at h
    simp [h] at this
  · rename_i e; exact first_none.1 e
end Go.Proofs.Ytfmlefadifpocaa.M
namespace Go.Proofs.Ytfmlefadifpocaa.B
open Go.ChangeShapes Go.WideShapes Go.ChangeAt Go.RowKit
set_option linter.unusedVariables false

/-- the instructions of l lie at b, o, one behind the other -/
def Ly (w : World) (b o : Nat) (l : List M.I) : Prop := b < w.heap.size ∧ ∀ j (h : j < l.length), LiesAt w b o j l[j]
theorem Ly.far {w w' : World} {b o B : Nat} {l : List M.I} (h : Ly w b o l) (hb : Below B w w') (hB : b < B) : Ly w' b o l :=
  ⟨Nat.lt_of_lt_of_le h.1 hb.size, fun j hj => by
    obtain ⟨h0, h1, h2, h3⟩ := h.2 j hj
    exact ⟨(hb.cell hB).trans h0, (hb.cell hB).trans h1, (hb.cell hB).trans h2, (hb.cell hB).trans h3⟩⟩
theorem Ly.below {w w' : World} {b o : Nat} {l : List M.I} (h : Ly w b o l) (hb : Below w.heap.size w w') : Ly w' b o l := h.far hb h.1
theorem Ly.lies {w : World} {b o : Nat} {l : List M.I} (h : Ly w b o l) : Lies w (some ⟨b, o, none⟩) l := .inr ⟨b, o, rfl, h.1, h.2⟩
theorem local_ly (b o n cap j : Nat) (l : List M.I) (hln : l.length = n) (hn : n ≤ 65536) (hj : j < l.length) (ok : ∀ i ∈ l, M.okI i) (w : World) (hl : Ly w b o l) :
    Calls Try.prog 40 #[.slice (some ⟨b, o, none⟩) n cap, .int .i64 j] w fun e w' => e = .returned (.int .i64 (M.loc n j l[j])) ∧ Below w.heap.size w w' :=
  local_at b o n cap j l[j].1 l[j].2.1 l[j].2.2.1 l[j].2.2.2 hn (by omega) (ok _ (List.getElem_mem hj)) w (hl.2 j hj)

set_option maxHeartbeats 1600000 in
set_option maxRecDepth 100000 in
theorem wrongAlone_any (b o n cap : Nat) (l : List M.I) (hln : l.length = n) (hn : n ≤ 65536) (ok : ∀ i ∈ l, M.okI i) (w : World) (hl : Ly w b o l) (p : Nat) (e0 : Int) (hp : (M.wa l) = (p, e0)) :
    Calls Try.prog 37 #[.slice (some ⟨b, o, none⟩) n cap] w fun e w' => e = .returned (.tuple #[.int .i64 (p : Int), .int .i64 e0]) ∧ Below w.heap.size w w' := by
  have HH := hid (And.intro hln (And.intro ok (And.intro hl hp)))
  clear hln ok hl hp
  go_enter Try.func37, Try.ntmps37
  go_wp2
  go_loopw [8] (fun i wr => ∃ k : Nat, k ≤ n ∧ i = .int .i64 k ∧ Hid (Below w.heap.size w wr ∧ ∀ j, j < k → M.wrong l j = false)) (fun i _ => n - (intOf i).toNat)
  case atStart => exact ⟨0, Nat.zero_le _, rfl, Below.refl _ _, fun j hj => by omega⟩
  case round =>
    obtain ⟨k, hk, rfl, HR⟩ := hrel
    by_cases hlt : k < n
    · have i1 : (k : Int) < (n : Int) := by omega
      have hkl : k < l.length := by rw [HH.out.1]; exact hlt
      have HC := hid (fun w hl => local_ly b o n cap k l HH.out.1 hn hkl HH.out.2.1 w hl)
      obtain ⟨x, hx⟩ : ∃ x, M.loc n k l[k] = x := ⟨_, rfl⟩
      rw [hx] at HC
      have HX := hid hx
      have HK := hid hkl
      clear hx
      rcases hz : (x != 0) with _ | _
      · go_wp2_with (go_at_call 40; refine (HC.out _ (HH.out.2.2.1.below HR.out.1)).mono ?_; rintro e w1 ⟨rfl, hb⟩; have HB := stp (hid HR.out.1) hb; clear hb)
        go_roundw
        case rel => exact ⟨k + 1, by omega, by go_num, HB.out, fun j hj => by
          by_cases e : j = k
          · subst e
            rw [M.wrong_at HK.out]
            have h1 := HX.out
            rw [← HH.out.1] at h1
            rw [h1, hz]
          · exact HR.out.2 j (by omega)⟩
        case measure => simp [intOf]; omega
      · have HP : Hid (M.wa l = (k, x)) := by
          have h1 := HX.out
          rw [← HH.out.1] at h1
          have := M.wa_some HK.out (by rw [h1]; simpa using hz) HR.out.2
          rw [h1] at this
          exact this
        go_wp2_with (go_at_call 40; refine (HC.out _ (HH.out.2.2.1.below HR.out.1)).mono ?_; rintro e w1 ⟨rfl, hb⟩; have HB := stp (hid HR.out.1) hb; clear hb)
        go_ret2
        have := HP.out.symm.trans HH.out.2.2.2
        simp only [Prod.mk.injEq] at this
        exact ⟨by rw [← this.1, ← this.2]; rfl, HB.out⟩
    · obtain rfl : k = n := by omega
      have HP : Hid (M.wa l = (0, 0)) := M.wa_none fun j hj => HR.out.2 j (by rw [HH.out.1] at hj; exact hj)
      go_wp2
      go_ret2
      have := HP.out.symm.trans HH.out.2.2.2
      simp only [Prod.mk.injEq] at this
      exact ⟨by rw [← this.1, ← this.2]; rfl, HR.out.1⟩
end Go.Proofs.Ytfmlefadifpocaa.B
namespace Go.Proofs.Ytfmlefadifpocaa.M
/-- the number that has the bits that f tells, below n -/
def mkb (f : Nat → Bool) : Nat → Nat
  | 0 => 0
  | n + 1 => mkb f n ||| (if f n then 2 ^ n else 0)
theorem mkb_bit (f : Nat → Bool) (n w : Nat) : (mkb f n).testBit w = (decide (w < n) && f w) := by
  induction n with
  | zero => simp [mkb]
  | succ n ih =>
    rw [mkb, Nat.testBit_or, ih]
    by_cases h : f n = true
    · rw [if_pos h, Nat.testBit_two_pow]
      by_cases e : n = w
      · subst e; simp [h]
      · have : decide (w < n + 1) = decide (w < n) := decide_eq_decide.2 (by omega)
        rw [this]; simp [e]
    · rw [if_neg h, Nat.zero_testBit, Bool.or_false]
      by_cases e : n = w
      · subst e; simp at h; simp [h]
      · have : decide (w < n + 1) = decide (w < n) := decide_eq_decide.2 (by omega)
        rw [this]
theorem mkb_lt (f : Nat → Bool) (n : Nat) : mkb f n < 2 ^ n := Nat.lt_pow_two_of_testBit _ fun i hi => by rw [mkb_bit]; simp; omega
theorem mkb_eq {f : Nat → Bool} {n x : Nat} (hx : x < 2 ^ n) (h : ∀ w, w < n → x.testBit w = f w) : mkb f n = x := by
  apply Nat.eq_of_testBit_eq
  intro w
  rw [mkb_bit]
  by_cases hw : w < n
  · simp [hw, h w hw]
  · rw [Nat.testBit_lt_two_pow (Nat.lt_of_lt_of_le hx (Nat.pow_le_pow_right (by omega) (by omega)))]; simp [hw]
/-- behind k rounds: the words that are written for sure ahead of place j, as far as is known -/
def wrK (l : List I) (k j : Nat) : Nat := mkb (fun w => !(outAt l w k).getD j false) 16
/-- in the end -/
def wr (l : List I) (j : Nat) : Nat := mkb (fun w => !bare l w j) 16
theorem wr_eq (l : List I) (j : Nat) : wrK l l.length j = wr l j := rfl
theorem wrK_lt (l : List I) (k j : Nat) : wrK l k j < 65536 := mkb_lt _ 16
theorem wr_lt (l : List I) (j : Nat) : wr l j < 65536 := mkb_lt _ 16
theorem wr_bit (l : List I) (j w : Nat) (h : w < 16) : (wr l j).testBit w = !bare l w j := by unfold wr; rw [mkb_bit]; simp [h]
theorem wrK_done {l : List I} {k : Nat} (h : k ≤ l.length) : wrK l k k = wr l k := by
  unfold wrK wr
  congr 1
  funext w
  rw [bare_at l w h]
theorem wrK_zero {l : List I} {j : Nat} (h : j < l.length) : wrK l 0 j = if j = 0 then 0 else 65535 := by
  apply mkb_eq
  · split <;> omega
  · intro w hw
    have e : (outAt l w 0).getD j false = decide (j = 0) := by
      rw [outAt, set_getD]
      rw [List.getD_eq_getElem?_getD, List.getElem?_replicate, if_pos h, List.length_replicate]
      simp [h, eq_comm]
    rw [e]
    split
    · rename_i h0; simp [h0]
    · rename_i h0
      rw [show (65535 : Nat) = 2 ^ 16 - 1 from rfl, Nat.testBit_two_pow_sub_one]
      simp [h0, hw]
def stN (x : I) : Nat := if kind x.1 = 8 ∨ kind x.1 = 9 then 2 ^ x.2.2.2.toNat else 0
theorem stN_lt {x : I} (h : kind x.1 = 8 ∨ kind x.1 = 9 → x.2.2.2 < 16) : stN x < 65536 := by
  unfold stN
  split
  · rename_i hk
    exact Nat.lt_of_lt_of_le (Nat.pow_lt_pow_right (by omega) (show x.2.2.2.toNat < 16 from by have := h hk; omega)) (by omega)
  · omega
theorem stN_bit {x : I} (ok : okI x) (w : Nat) : (stN x).testBit w = wrW w x := by
  obtain ⟨c, t, f, k⟩ := x
  have h0 : 0 ≤ k := ok.2.2.2.1
  unfold stN wrW
  simp only
  split
  · rename_i hk
    rw [Nat.testBit_two_pow]
    have e1 : (kind c == 8 || kind c == 9) = true := by simpa using hk
    rw [e1, Bool.true_and]
    rw [show (k == (w : Int)) = decide (k.toNat = w) from ?_]
    rw [Bool.eq_iff_iff]; simp; omega
  · rename_i hk
    have e1 : (kind c == 8 || kind c == 9) = false := by simpa using hk
    rw [e1]; simp
theorem loc_st {n i : Nat} {c t f k : Int} (h : loc n i (c, t, f, k) = 0) : kind c = 8 ∨ kind c = 9 → k < 16 := by
  intro hk
  rw [loc4 (by omega)] at h
  unfold scE at h
  split at h <;> omega
theorem loc_ld {n i : Nat} {c t f k : Int} (h : loc n i (c, t, f, k) = 0) : kind c = 4 ∨ kind c = 6 → k < 16 := by
  intro hk
  rw [loc4 (by omega)] at h
  unfold scE at h
  split at h <;> omega
theorem loc_ja {n i : Nat} {c t f k : Int} (h : loc n i (c, t, f, k) = 0) (hk : kind c = 11) : (i : Int) + 1 + k < n := by
  rw [loc11 hk] at h
  unfold jpE at h
  split at h <;> omega
theorem loc_jif {n i : Nat} {c t f k : Int} (h : loc n i (c, t, f, k) = 0) (hk : kind c = 12) : (i : Int) + 1 + t < n ∧ (i : Int) + 1 + f < n := by
  unfold loc at h
  simp only at h
  rw [if_neg (by omega), if_neg (by omega), if_neg (by omega), if_neg (by omega), if_neg (by omega), if_pos hk] at h
  split at h <;> omega
theorem stW_stN {c t f k : Int} : stW c k = ((stN (c, t, f, k) : Nat) : Int) := by
  unfold stW stN bitI
  simp only
  split <;> simp
theorem nxt13 {i : Nat} {c t f k : Int} (h : kind c = 13 ∨ kind c = 14) : nxt i (c, t, f, k) = [] := by
  unfold nxt; simp only; rw [if_neg (by omega), if_neg (by omega), if_pos h]
theorem nxt11 {i d : Nat} {c t f : Int} (h : kind c = 11) : nxt i (c, t, f, (d : Int)) = [i + 1 + d] := by
  unfold nxt; simp only; rw [if_pos h]; simp
theorem nxt12 {i t f : Nat} {c k : Int} (h : kind c = 12) : nxt i (c, (t : Int), (f : Int), k) = [i + 1 + t, i + 1 + f] := by
  unfold nxt; simp only; rw [if_neg (by omega), if_pos h]; simp
theorem nxtE {i : Nat} {c t f k : Int} (h : kind c ≠ 11 ∧ kind c ≠ 12 ∧ kind c ≠ 13 ∧ kind c ≠ 14) : nxt i (c, t, f, k) = [i + 1] := by
  unfold nxt; simp only; rw [if_neg (by omega), if_neg (by omega), if_neg (by omega)]
/-- a round -/
theorem wrK_succ {l : List I} {k j : Nat} (hk : k < l.length) (hj : j < l.length) (ok : okI l[k]) :
    wrK l (k + 1) j = if j ∈ nxt k l[k] then wrK l k j &&& (wrK l k k ||| stN l[k]) else wrK l k j := by
  apply mkb_eq
  · split
    · exact Nat.lt_of_le_of_lt Nat.and_le_left (wrK_lt l k j)
    · exact wrK_lt l k j
  · intro w hw16
    have hO := outAt_succ l w k j
    have b1 : (wrK l k j).testBit w = !(outAt l w k).getD j false := by unfold wrK; rw [mkb_bit]; simp [hw16]
    have b2 : (wrK l k k).testBit w = !(outAt l w k).getD k false := by unfold wrK; rw [mkb_bit]; simp [hw16]
    split
    · rename_i hm
      rw [Nat.testBit_and, Nat.testBit_or, b1, b2, stN_bit ok]
      rw [Bool.eq_iff_iff]
      have : ((!(outAt l w (k + 1)).getD j false) = true) ↔ ¬ ((outAt l w (k + 1)).getD j false = true) := by simp
      rw [this, hO]
      constructor
      · rintro h (h1 | ⟨_, h1, h2, _⟩)
        · rw [h1] at h; simp at h
        · rw [h1, h2] at h; simp at h
      · intro h
        cases h1 : (outAt l w k).getD j false with
        | true => exact absurd (Or.inl h1) h
        | false =>
          cases h2 : (outAt l w k).getD k false with
          | false => rfl
          | true =>
            cases h3 : wrW w l[k] with
            | true => rfl
            | false => exact absurd (Or.inr ⟨hk, h2, h3, hm, hj⟩) h
    · rename_i hm
      rw [b1]
      congr 1
      rw [Bool.eq_iff_iff, hO]
      constructor
      · exact Or.inl
      · rintro (h1 | ⟨_, _, _, h1, _⟩)
        · exact h1
        · exact absurd h1 hm
end Go.Proofs.Ytfmlefadifpocaa.M
namespace Go.Proofs.Ytfmlefadifpocaa.B
open Go.ChangeShapes Go.WideShapes Go.ChangeAt Go.RowKit
set_option linter.unusedVariables false

/-- a row of n cells that may be read and stored into -/
structure Row (W : World) (g n : Nat) (V : Nat → Value) : Prop where
  lt : g < W.heap.size
  cell : ∀ j, j < n → W.cell? ⟨g, j, none⟩ = some (V j)
  froz : ∀ j, j < n → W.frozen? ⟨g, j, none⟩ = false
section
variable {W W' : World} {g n : Nat} {V U : Nat → Value}
theorem Row.far {B : Nat} (h : Row W g n V) (hb : Below B W W') (hg : g < B) : Row W' g n V :=
  ⟨Nat.lt_of_lt_of_le h.lt hb.size, fun j hj => (hb.cell (p := ⟨g, j, none⟩) hg).trans (h.cell j hj), fun j hj => by
    have e := hb.block g hg
    have := h.froz j hj
    unfold World.frozen? at this ⊢
    rw [e]; exact this⟩
theorem Row.below (h : Row W g n V) (hb : Below W.heap.size W W') : Row W' g n V := h.far hb h.lt
theorem Row.congr (h : Row W g n V) (e : ∀ j, j < n → V j = U j) : Row W g n U := ⟨h.lt, fun j hj => by rw [← e j hj]; exact h.cell j hj, h.froz⟩
theorem Row.drewN (h : Row W g n V) (q : Nat) : Row (W.drewN q) g n V := ⟨h.lt, h.cell, h.froz⟩
theorem Row.set (h : Row W g n V) (j : Nat) (hj : j < n) (v : Value) : Row (W.setCell ⟨g, j, none⟩ v) g n (fun i => if i = j then v else V i) :=
  ⟨by have := h.lt; simpa using this, fun i hi => by
    by_cases e : i = j
    · subst e; rw [if_pos rfl]; exact World.cell?_setCell_same _ _ _ (h.cell i hi)
    · rw [if_neg e, World.cell?_setCell_other _ _ _ _ (by intro x; injection x with _ x; exact e x.symm)]; exact h.cell i hi, fun i hi => by rw [World.frozen?_setCell]; exact h.froz i hi⟩
theorem Row.other (h : Row W g n V) (c k : Nat) (v : Value) (hne : c ≠ g) : Row (W.setCell ⟨c, k, none⟩ v) g n V :=
  ⟨by have := h.lt; simpa using this, fun i hi => by rw [World.cell?_setCell_far _ _ _ _ (by simpa using hne)]; exact h.cell i hi, fun i hi => by rw [World.frozen?_setCell]; exact h.froz i hi⟩
theorem Row.of_own {base e : Nat} {cap : Nat} {xs : List Value} (h : W.ownsRow base e 1 (.slice (some ⟨g, 0, none⟩) n cap) n xs) (hv : ∀ j, j < n → xs[j]? = some (V j)) (hg : g < W.heap.size) : Row W g n V :=
  ⟨hg, fun j hj => by rw [h.cellAt j (by omega)]; exact hv j hj, fun j _ => h.frozenAt j⟩
end
theorem made_get (z : Value) (n j : Nat) (h : j < n) : (madeCells #[z] n).toList[j]? = some z := by
  simp [madeCells, h, Nat.mod_one]
theorem info34 : (Try.prog.info? 35).map (fun i => (i.zero, i.size, i.bytes)) = some (some (.int .u16 0), 1, 2) := by kernel_rfl
end Go.Proofs.Ytfmlefadifpocaa.B
namespace Go.Proofs.Ytfmlefadifpocaa.B
open Go.ChangeShapes Go.WideShapes Go.ChangeAt Go.RowKit
open Go.Sort hiding Below
set_option linter.unusedVariables false

set_option maxHeartbeats 1600000 in
set_option maxRecDepth 100000 in
theorem written_any (b o n cap : Nat) (l : List M.I) (hln : l.length = n) (h0 : 0 < n) (hn : n ≤ 65536) (ok : ∀ i ∈ l, M.okI i) (ha : ∀ j, j < l.length → M.wrong l j = false) (w : World) (hl : Ly w b o l) :
    Calls Try.prog 50 #[.slice (some ⟨b, o, none⟩) n cap] w fun e w' => ∃ g, e = .returned (.slice (some ⟨g, 0, none⟩) n n) ∧ Row w' g n (fun j => .int .u16 ((M.wr l j : Nat) : Int)) ∧ Below w.heap.size w w' := by
  obtain ⟨i0, hi, hz0, hz1, hz2⟩ := info_parts info34
  have HH := hid (And.intro hln (And.intro ok (And.intro hl ha)))
  clear hln ok hl ha
  go_enter Try.func50, Try.ntmps50
  go_wp2_with (at_make; refine wpList_make_full _ rfl _ _ 65 rfl w.heap.size 35 i0 (.int .u16 0) 1 Try.underlying65 hi hz0 hz1 .i64 .i64 n n n rfl rfl rfl rfl ?c1 ?c2 (Nat.le_refl _) ?_)
  case c1 => rw [hz2]; omega
  case c2 => unfold maxLen; omega
  intro wm hown hgrow
  have hbm : Below w.heap.size w wm := (Below.refl _ _).grown hgrow (Nat.le_refl _) (by intro k hk; cases hk)
  have HM : Hid (Row wm w.heap.size n (fun _ => .int .u16 0) ∧ Below w.heap.size w wm) := ⟨Row.of_own hown (fun j hj => made_get (.int .u16 0) n j hj) (hown.lt _ rfl).2, hbm⟩
  clear hown hgrow hbm
  go_wp2
  go_loopw [13] (fun i wr => ∃ k : Nat, k ≤ n ∧ i = .int .i64 k ∧ Hid (Row wr w.heap.size n (fun j => .int .u16 (if j < k then 65535 else 0)) ∧ Below w.heap.size w wr)) (fun i _ => n - (intOf i).toNat)
  case atStart => exact ⟨0, Nat.zero_le _, rfl, HM.out.1.congr (fun j _ => by simp), HM.out.2⟩
  case round =>
    clear HM
    obtain ⟨k, hk, rfl, HR⟩ := hrel
    by_cases hlt : k < n
    · have i1 : (k : Int) < (n : Int) := by omega
      have hc := HR.out.1.cell k hlt
      have hf := HR.out.1.froz k hlt
      go_wp2
      go_roundw
      case rel => exact ⟨k + 1, by omega, by go_num, (HR.out.1.set k hlt _).congr (fun j hj => by
        by_cases e : j = k
        · rw [if_pos e, if_pos (by omega)]
        · rw [if_neg e]; by_cases e2 : j < k
          · rw [if_pos e2, if_pos (by omega)]
          · rw [if_neg e2, if_neg (by omega)]), HR.out.2.setCell (Nat.le_refl _) _⟩
      case measure => simp [intOf]; omega
    · obtain rfl : k = n := by omega
      have hc := HR.out.1.cell 0 h0
      have hf := HR.out.1.froz 0 h0
      have i1 : (0 : Int) < (k : Int) := by omega
      go_wp2
      have HQ : Hid (Row (wr.setCell ⟨w.heap.size, 0, none⟩ (.int .u16 0)) w.heap.size k (fun j => .int .u16 ((M.wrK l 0 j : Nat) : Int)) ∧ Below w.heap.size w (wr.setCell ⟨w.heap.size, 0, none⟩ (.int .u16 0))) :=
        ⟨(HR.out.1.set 0 h0 _).congr (fun j hj => by
          rw [M.wrK_zero (by rw [HH.out.1]; exact hj)]
          by_cases e : j = 0
          · rw [if_pos e, if_pos e]; rfl
          · rw [if_neg e, if_neg e, if_pos hj]; rfl), HR.out.2.setCell (Nat.le_refl _) _⟩
      clear HR hc hf i1
      generalize wr.setCell ⟨w.heap.size, 0, none⟩ (.int .u16 0) = wz at *
      go_loopw [24] (fun i wr => ∃ q : Nat, q ≤ k ∧ i = .int .i64 q ∧ Hid (Row wr w.heap.size k (fun j => .int .u16 ((M.wrK l q j : Nat) : Int)) ∧ Below w.heap.size w wr)) (fun i _ => k - (intOf i).toNat)
      case atStart => exact ⟨0, Nat.zero_le _, rfl, HQ.out⟩
      case round =>
        clear HQ
        obtain ⟨q, hq, rfl, HR⟩ := hrel
        by_cases hlt : q < k
        · have i1 : (q : Int) < (k : Int) := by omega
          have hql : q < l.length := by rw [HH.out.1]; exact hlt
          obtain ⟨⟨c, t, f, kk⟩, hx⟩ : ∃ x, l[q] = x := ⟨_, rfl⟩
          have hloc : M.loc k q (c, t, f, kk) = 0 := by
            have := HH.out.2.2.2 q hql
            rw [M.wrong_at hql, hx, HH.out.1] at this
            simpa using this
          have hok : M.okI (c, t, f, kk) := hx ▸ HH.out.2.1 _ (List.getElem_mem hql)
          have hp := ((HH.out.2.2.1.below HR.out.2).2 q hql)
          rw [hx] at hp
          obtain ⟨q0, q1, q2, q3⟩ := hp
          simp only at q0 q1 q2 q3
          obtain ⟨b0, b1, b2, b3⟩ := hok
          simp only at b0 b1 b2 b3
          have hok : M.okI (c, t, f, kk) := ⟨b0, b1, b2, b3⟩
          obtain ⟨d, rfl⟩ : ∃ d : Nat, kk = d := ⟨kk.toNat, by omega⟩
          obtain ⟨t', rfl⟩ : ∃ d : Nat, t = d := ⟨t.toNat, by omega⟩
          obtain ⟨f', rfl⟩ : ∃ d : Nat, f = d := ⟨f.toNat, by omega⟩
          have HJ := hid (fun h : M.kind c = 11 => M.loc_ja hloc h)
          have HI := hid (fun h : M.kind c = 12 => M.loc_jif hloc h)
          have HS := hid (fun w d0 os => Calls.regrown_of (w := w) (d := d0) (os := os) (stored_any c t' f' d hok (M.loc_st hloc) _))
          obtain ⟨Bn, hBn⟩ : ∃ Bn : Nat, M.wrK l q q ||| M.stN (c, t', f', d) = Bn := ⟨_, rfl⟩
          have hSl := M.stN_lt (x := (c, (t' : Int), (f' : Int), (d : Int))) (M.loc_st hloc)
          have hBlt : Bn < 65536 := by
            rw [← hBn]
            exact Nat.or_lt_two_pow (n := 16) (M.wrK_lt l q q) hSl
          have hor : bits .or .u16 ((M.wrK l q q : Nat) : Int) (M.stW c d) = (Bn : Int) := by
            rw [M.stW_stN (t := t') (f := f'), ← hBn, u16_or _ _ (by omega) (by have := M.wrK_lt l q q; omega) (by omega) (by omega)]
            simp
          have HN := hid (fun j (hj : j < k) => by
            have := M.wrK_succ (k := q) (j := j) hql (by rw [HH.out.1]; exact hj) (by rw [hx]; exact hok)
            rw [hx, hBn] at this
            exact this)
          have HAnd := hid (fun (m : Nat) (hm : m < 65536) => show bits .and .u16 (m : Int) (Bn : Int) = ((m &&& Bn : Nat) : Int) from by
            rw [u16_and _ _ (by omega) (by omega) (by omega) (by omega)]; simp)
          have hR1 := HR.out.1.cell q hlt
          have HA := hid (al wr (.cells #[.int .u16 c, .int .u8 t', .int .u8 f', .int .u32 d] 38))
          have hA := At.new wr c t' f' d
          have HRow := hid (HR.out.1.below HA.out)
          clear hBn hloc hok hx hSl
          go_wp2_with fail
          obtain ⟨W1, hW1⟩ : ∃ W1, wr.alloc (.cells #[.int .u16 c, .int .u8 t', .int .u8 f', .int .u32 d] 38) = W1 := ⟨_, rfl⟩
          rw [hW1] at hA HA HRow ⊢
          have HB := stp (hid HR.out.2) HA.out
          have hneq : wr.heap.size ≠ w.heap.size := by have := HR.out.1.lt; omega
          clear hW1 HA HR q0 q1 q2 q3
          obtain ⟨a0, a1, a2, a3, _⟩ := hA.cells
          have k0 := cell_regrown a0
          have k1 := cell_regrown a1
          have k2 := cell_regrown a2
          have k3 := cell_regrown a3
          have k4 := cell_regrown (HRow.out.cell q hlt)
          have HC := hid (HS.out W1)
          refine wp_region_quiet_below (by kernel_rfl) (by kernel_rfl) ?_
          repeat (quiet_step (exact HC.out _ _))
          refine wpQuiet_nil ?_
          intro w2 hw2
          have hb : Below W1.heap.size W1 w2 := by obtain ⟨⟨d, os⟩, rfl⟩ := hw2; exact below_regrown _ _ _
          replace hA := hA.below hb
          replace HRow := hid (HRow.out.below hb)
          replace HB := stp HB hb
          clear hb hw2 k0 k1 k2 k3 k4 HC HS a0 a1 a2 a3
          obtain ⟨a0, a1, a2, a3, _⟩ := hA.cells
          by_cases hr : M.kind c = 13 ∨ M.kind c = 14
          · have HX := hid (M.nxt13 (i := q) (t := t') (f := f') (k := d) hr)
            have d1 : (M.kind c == 13) = true ∨ (M.kind c == 13) = false ∧ (M.kind c == 14) = true := by
              rcases hr with h | h <;> simp [h]
            clear hr
            rcases d1 with d1 | ⟨d1, d2⟩
            all_goals
              go_wp2_with (go_at_call 41; refine (kind_any _ _).mono ?_; rintro e w' ⟨rfl, rfl⟩)
              go_roundw
              case rel => exact ⟨q + 1, by omega, by go_num, HRow.out.congr (fun j hj => by rw [HN.out j hj, HX.out]; simp), HB.out⟩
              case measure => simp [intOf]; omega
          · have d1 : (M.kind c == 13) = false := by rw [beq_eq_false_iff_ne]; omega
            have d2 : (M.kind c == 14) = false := by rw [beq_eq_false_iff_ne]; omega
            by_cases h11 : M.kind c = 11
            · have d3 : (M.kind c == 11) = true := by rw [h11]; rfl
              have HX := hid (M.nxt11 (i := q) (d := d) (t := t') (f := f') h11)
              have hT := HJ.out h11
              have hT' : q + 1 + d < k := by omega
              have cT := HRow.out.cell _ hT'
              have fT := HRow.out.froz _ hT'
              have hand := HAnd.out _ (M.wrK_lt l q (q + 1 + d))
              obtain ⟨A, hAA⟩ : ∃ A, M.wrK l q (q + 1 + d) &&& Bn = A := ⟨_, rfl⟩
              rw [hAA] at hand
              have HAA := hid hAA
              clear hAA hr h11 HJ HI
              go_wp2_with (first
                | (go_at_call 41; refine (kind_any _ _).mono ?_; rintro e w' ⟨rfl, rfl⟩)
                | (go_at_call 61; refine (target_any _ _ (by omega) (by omega) _).mono ?_; rintro e w' ⟨rfl, rfl⟩))
              go_roundw
              case rel => exact ⟨q + 1, by omega, by go_num, (HRow.out.set _ hT' _).congr (fun j hj => by
                rw [HN.out j hj, HX.out]
                by_cases e : j = q + 1 + d
                · subst e; rw [if_pos rfl, if_pos (by simp), HAA.out]
                · rw [if_neg e, if_neg (by simpa using e)]), HB.out.setCell (Nat.le_refl _) _⟩
              case measure => simp [intOf]; omega
            · have d3 : (M.kind c == 11) = false := by rw [beq_eq_false_iff_ne]; omega
              by_cases h12 : M.kind c = 12
              · have d4 : (M.kind c == 12) = true := by rw [h12]; rfl
                have HX := hid (M.nxt12 (i := q) (t := t') (f := f') (k := d) h12)
                obtain ⟨hT, hF⟩ := HI.out h12
                have hT' : q + 1 + t' < k := by omega
                have hF' : q + 1 + f' < k := by omega
                have cT := HRow.out.cell _ hT'
                have fT := HRow.out.froz _ hT'
                have hand := HAnd.out _ (M.wrK_lt l q (q + 1 + t'))
                obtain ⟨A, hAA⟩ : ∃ A, M.wrK l q (q + 1 + t') &&& Bn = A := ⟨_, rfl⟩
                rw [hAA] at hand
                have HAA := hid hAA
                have HRow2 := hid (HRow.out.set _ hT' (.int .u16 (A : Int)))
                obtain ⟨v2, hv2⟩ : ∃ v2 : Nat, v2 = if q + 1 + f' = q + 1 + t' then A else M.wrK l q (q + 1 + f') := ⟨_, rfl⟩
                have cF : (w2.setCell ⟨w.heap.size, q + 1 + t', none⟩ (.int .u16 (A : Int))).cell? ⟨w.heap.size, q + 1 + f', none⟩ = some (.int .u16 (v2 : Int)) := by
                  rw [HRow2.out.cell _ hF', hv2]; split <;> rfl
                have fF := HRow.out.froz _ hF'
                have hAl : A < 65536 := by rw [← hAA]; exact Nat.lt_of_le_of_lt Nat.and_le_left (M.wrK_lt _ _ _)
                have hvl : v2 < 65536 := by rw [hv2]; split; exact hAl; exact M.wrK_lt _ _ _
                have hand2 := HAnd.out _ hvl
                obtain ⟨A2, hA2⟩ : ∃ A2, v2 &&& Bn = A2 := ⟨_, rfl⟩
                rw [hA2] at hand2
                have HA2 := hid hA2
                have HV2 := hid hv2
                have hne : wr.heap.size ≠ w.heap.size := hneq
                have a0' : (w2.setCell ⟨w.heap.size, q + 1 + t', none⟩ (.int .u16 (A : Int))).cell? ⟨wr.heap.size, 2, none⟩ = some (.int .u8 (f' : Int)) := by
                  rw [World.cell?_setCell_far _ _ _ _ (by simpa using hne.symm)]; exact a2
                clear hAA hA2 hv2 hr h11 h12 HJ HI hAl hvl hne
                go_wp2_with (first
                  | (go_at_call 41; refine (kind_any _ _).mono ?_; rintro e w' ⟨rfl, rfl⟩)
                  | (go_at_call 61; refine (target_any _ _ (by omega) (by omega) _).mono ?_; rintro e w' ⟨rfl, rfl⟩))
                go_roundw
                case rel => exact ⟨q + 1, by omega, by go_num, (HRow2.out.set _ hF' _).congr (fun j hj => by
                  rw [HN.out j hj, HX.out]
                  by_cases e : j = q + 1 + f'
                  · subst e
                    rw [if_pos rfl, if_pos (by simp), ← HA2.out, HV2.out]
                    split
                    · rename_i e2
                      rw [← HAA.out, Nat.and_assoc, Nat.and_self, e2]
                    · rfl
                  · rw [if_neg e]
                    by_cases e2 : j = q + 1 + t'
                    · subst e2; rw [if_pos rfl, if_pos (by simp), HAA.out]
                    · rw [if_neg e2, if_neg (by simp; omega)]), (HB.out.setCell (Nat.le_refl _) _).setCell (Nat.le_refl _) _⟩
                case measure => simp [intOf]; omega
              · have d4 : (M.kind c == 12) = false := by rw [beq_eq_false_iff_ne]; omega
                have HX := hid (M.nxtE (i := q) (t := t') (f := f') (k := d) ⟨h11, h12, by omega, by omega⟩)
                clear hr h11 h12 HJ HI
                by_cases hT' : q + 1 < k
                · have hT : (q : Int) + 1 < k := by omega
                  have cT := HRow.out.cell _ hT'
                  have fT := HRow.out.froz _ hT'
                  have hand := HAnd.out _ (M.wrK_lt l q (q + 1))
                  obtain ⟨A, hAA⟩ : ∃ A, M.wrK l q (q + 1) &&& Bn = A := ⟨_, rfl⟩
                  rw [hAA] at hand
                  have HAA := hid hAA
                  clear hAA
                  go_wp2_with (first
                    | (go_at_call 41; refine (kind_any _ _).mono ?_; rintro e w' ⟨rfl, rfl⟩))
                  go_roundw
                  case rel => exact ⟨q + 1, by omega, by go_num, (HRow.out.set _ hT' _).congr (fun j hj => by
                    rw [HN.out j hj, HX.out]
                    by_cases e : j = q + 1
                    · subst e; rw [if_pos rfl, if_pos (by simp), HAA.out]
                    · rw [if_neg e, if_neg (by simpa using e)]), HB.out.setCell (Nat.le_refl _) _⟩
                  case measure => simp [intOf]; omega
                · have hT : ¬ (q : Int) + 1 < k := by omega
                  go_wp2_with (first
                    | (go_at_call 41; refine (kind_any _ _).mono ?_; rintro e w' ⟨rfl, rfl⟩))
                  go_roundw
                  case rel => exact ⟨q + 1, by omega, by go_num, HRow.out.congr (fun j hj => by
                    rw [HN.out j hj, HX.out, if_neg (by simp; omega)]), HB.out⟩
                  case measure => simp [intOf]; omega
        · obtain rfl : q = k := by omega
          go_wp2
          go_ret
          exact ⟨_, rfl, HR.out.1.congr (fun j hj => by rw [← HH.out.1, M.wr_eq]), HR.out.2⟩
end Go.Proofs.Ytfmlefadifpocaa.B
