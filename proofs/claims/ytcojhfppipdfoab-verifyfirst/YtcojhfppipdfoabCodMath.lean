/-
  The codes, their names and kinds, as plain functions over one table.
-/
import Derived.Test.YtcojhfppipdfoabRows
namespace Go.Proofs.Ytcojhfppipdfoab.M

def tbl : List (List UInt8 × Int) := [([108, 100], 32), ([108, 100, 108, 101, 110], 128), ([108, 100, 105], 0), ([108, 100, 109], 96), ([108, 100, 120, 105], 1), ([108, 100, 120, 109], 97), ([108, 100, 120, 108, 101, 110], 129), ([115, 116], 2), ([115, 116, 120], 3), ([97, 100, 100], 4), ([115, 117, 98], 20), ([109, 117, 108], 36), ([100, 105, 118], 52), ([111, 114], 68), ([97, 110, 100], 84), ([108, 115, 104], 100), ([114, 115, 104], 116), ([120, 111, 114], 164), ([97, 100, 100, 120], 12), ([115, 117, 98, 120], 28), ([109, 117, 108, 120], 44), ([100, 105, 118, 120], 60), ([111, 114, 120], 76), ([97, 110, 100, 120], 92), ([108, 115, 104, 120], 108), ([114, 115, 104, 120], 124), ([120, 111, 114, 120], 172), ([110, 101, 103], 132), ([106, 97], 5), ([106, 101, 113], 21), ([106, 103, 116], 37), ([106, 103, 101], 53), ([106, 115, 101, 116], 69), ([106, 101, 113, 120], 29), ([106, 103, 116, 120], 45), ([106, 103, 101, 120], 61), ([106, 115, 101, 116, 120], 77), ([114, 101, 116], 6), ([114, 101, 116, 97], 22), ([116, 97, 120], 7), ([116, 120, 97], 135)]
def codes : List Int := [0x00, 0x01, 0x02, 0x03, 0x04, 0x05, 0x06, 0x07, 0x0c, 0x14, 0x15, 0x16, 0x1c, 0x1d, 0x20, 0x24, 0x25, 0x2c, 0x2d, 0x34, 0x35, 0x3c, 0x3d, 0x44, 0x45, 0x4c, 0x4d, 0x54, 0x5c, 0x60, 0x61, 0x64, 0x6c, 0x74, 0x7c, 0x80, 0x81, 0x84, 0x87, 0xa4, 0xac]
def kinds : List (Int × Int) := [(32, 1), (128, 2), (0, 3), (96, 4), (1, 5), (97, 6), (129, 7), (2, 8), (3, 9), (4, 10), (20, 10), (36, 10), (52, 10), (68, 10), (84, 10), (100, 10), (116, 10), (164, 10), (12, 10), (28, 10), (44, 10), (60, 10), (76, 10), (92, 10), (108, 10), (124, 10), (172, 10), (132, 10), (5, 11), (21, 12), (37, 12), (53, 12), (69, 12), (29, 12), (45, 12), (61, 12), (77, 12), (6, 13), (22, 14), (7, 15), (135, 16)]
def find (s : List UInt8) : Option Int := (tbl.find? fun p => p.1 == s).map (·.2)
def name (c : Int) : List UInt8 := ((tbl.find? fun p => p.2 == c).map (·.1)).getD []
def kind (c : Int) : Int := ((kinds.find? fun p => c == p.1).map (·.2)).getD 0
def rdA (c : Int) : Bool := kind c == 8 || kind c == 10 || kind c == 12 || kind c == 14 || kind c == 15
def rdX (c : Int) : Bool := kind c == 9 || kind c == 16 || (kind c == 10 || kind c == 12) && c / 8 % 2 == 1
def wrA (c : Int) : Bool := kind c == 1 || kind c == 2 || kind c == 3 || kind c == 4 || kind c == 10 || kind c == 16
def wrX (c : Int) : Bool := kind c == 5 || kind c == 6 || kind c == 7 || kind c == 15
def ends (c : Int) : Bool := kind c == 13 || kind c == 14

theorem codes_perm : (tbl.map (·.2)).Perm codes := by decide
theorem kinds_codes : (kinds.map (·.1)).Perm codes := by decide
theorem vals_nodup : (tbl.map (·.2)).Nodup := by decide
theorem keys_nodup : (tbl.map (·.1)).Nodup := by decide
theorem keys_some : ∀ p ∈ tbl, p.1 ≠ [] := by decide
theorem keys_short : ∀ p ∈ tbl, p.1.length ≤ 6 := by decide
theorem vals_small : ∀ p ∈ tbl, 0 ≤ p.2 ∧ p.2 < 256 := by decide
theorem codes_sorted : codes.Pairwise (· < ·) := by decide

theorem find_eq_none {α : Type} (l : List α) (f : α → Bool) : l.find? f = none ↔ ∀ x ∈ l, f x = false := by simp [List.find?_eq_none]

theorem find_mem {s : List UInt8} {c : Int} (h : find s = some c) : (s, c) ∈ tbl := by
  unfold find at h
  cases e : tbl.find? (fun p => p.1 == s) with
  | none => rw [e] at h; cases h
  | some p =>
    rw [e] at h
    have := List.mem_of_find?_eq_some e
    have hp := List.find?_some e
    simp at h hp
    rw [← hp, ← h]
    exact this
theorem nodup_inj {α β : Type} [DecidableEq β] {l : List α} {f : α → β} (h : (l.map f).Nodup) {x y : α} (hx : x ∈ l) (hy : y ∈ l) (e : f x = f y) : x = y := by
  induction l with
  | nil => cases hx
  | cons a l ih =>
    simp only [List.map_cons, List.nodup_cons, List.mem_map, not_exists, not_and] at h
    rcases List.mem_cons.1 hx with hx' | hx'
    · rcases List.mem_cons.1 hy with hy' | hy'
      · rw [hx', hy']
      · rw [hx'] at e; exact absurd e.symm (h.1 y hy')
    · rcases List.mem_cons.1 hy with hy' | hy'
      · rw [hy'] at e; exact absurd e (h.1 x hx')
      · exact ih h.2 hx' hy'
theorem mem_find {s : List UInt8} {c : Int} (h : (s, c) ∈ tbl) : find s = some c := by
  unfold find
  cases e : tbl.find? (fun p => p.1 == s) with
  | none =>
    have := (find_eq_none _ _).1 e (s, c) h
    simp at this
  | some p =>
    have hm := List.mem_of_find?_eq_some e
    have hp := List.find?_some e
    simp at hp
    have := nodup_inj keys_nodup hm h hp
    rw [this]; rfl
theorem mem_name {s : List UInt8} {c : Int} (h : (s, c) ∈ tbl) : name c = s := by
  unfold name
  cases e : tbl.find? (fun p => p.2 == c) with
  | none =>
    have := (find_eq_none _ _).1 e (s, c) h
    simp at this
  | some p =>
    have hm := List.mem_of_find?_eq_some e
    have hp := List.find?_some e
    simp at hp
    have := nodup_inj vals_nodup hm h hp
    rw [this]; rfl
theorem name_none {c : Int} (h : ∀ p ∈ tbl, p.2 ≠ c) : name c = [] := by
  unfold name
  rw [(find_eq_none _ _).2 (fun p hp => by simpa using h p hp)]
  rfl
theorem name_mem {c : Int} (h : name c ≠ []) : (name c, c) ∈ tbl := by
  by_cases hc : ∃ p ∈ tbl, p.2 = c
  · obtain ⟨⟨s, d⟩, hp, rfl⟩ := hc
    rw [mem_name hp]; exact hp
  · exact absurd (name_none fun p hp e => hc ⟨p, hp, e⟩) h
theorem find_nil : find [] = none := by decide
theorem mem_codes {c : Int} : c ∈ codes ↔ ∃ s, (s, c) ∈ tbl := by
  rw [← codes_perm.mem_iff, List.mem_map]
  exact ⟨fun ⟨p, hp, e⟩ => ⟨p.1, by rw [← e]; exact hp⟩, fun ⟨s, h⟩ => ⟨_, h, rfl⟩⟩
theorem name_codes {c : Int} : name c ≠ [] ↔ c ∈ codes := by
  rw [mem_codes]
  refine ⟨fun h => ⟨_, name_mem h⟩, fun ⟨s, h⟩ => ?_⟩
  rw [mem_name h]
  exact keys_some _ h
theorem kind_none {c : Int} (h : c ∉ codes) : kind c = 0 := by
  unfold kind
  rw [(find_eq_none _ _).2 (fun p hp => by
    have : p.1 ∈ codes := kinds_codes.mem_iff.1 (List.mem_map.2 ⟨p, hp, rfl⟩)
    simp only [beq_eq_false_iff_ne, ne_eq]
    rintro rfl
    exact h this)]
  rfl
/-- What is so of each code, and of what is none, is so. -/
theorem all_codes {p : Int → Prop} (h1 : ∀ c ∈ codes, p c) (h2 : ∀ c, c ∉ codes → p c) (c : Int) : p c := by
  by_cases h : c ∈ codes
  · exact h1 c h
  · exact h2 c h
end Go.Proofs.Ytcojhfppipdfoab.M
