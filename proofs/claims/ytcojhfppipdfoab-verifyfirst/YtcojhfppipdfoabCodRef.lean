/-
  The document's own list of codes and their names, as walks over the Go text.
-/
import Derived.Test.YtcojhfppipdfoabCodKind
import Derived.Test.YtcojhfppipdfoabVerHid
import Derived.Deep.RegionHeld
import Derived.RangeFuncRecord
namespace Go.Proofs.Ytcojhfppipdfoab.M
def names : List (List UInt8) := [[108, 100, 105], [108, 100, 120, 105], [115, 116], [115, 116, 120], [97, 100, 100], [106, 97], [114, 101, 116], [116, 97, 120], [97, 100, 100, 120], [115, 117, 98], [106, 101, 113], [114, 101, 116, 97], [115, 117, 98, 120], [106, 101, 113, 120], [108, 100], [109, 117, 108], [106, 103, 116], [109, 117, 108, 120], [106, 103, 116, 120], [100, 105, 118], [106, 103, 101], [100, 105, 118, 120], [106, 103, 101, 120], [111, 114], [106, 115, 101, 116], [111, 114, 120], [106, 115, 101, 116, 120], [97, 110, 100], [97, 110, 100, 120], [108, 100, 109], [108, 100, 120, 109], [108, 115, 104], [108, 115, 104, 120], [114, 115, 104], [114, 115, 104, 120], [108, 100, 108, 101, 110], [108, 100, 120, 108, 101, 110], [110, 101, 103], [116, 120, 97], [120, 111, 114], [120, 111, 114, 120]]
theorem names_eq : names = codes.map name := by decide +kernel
def cd (j : Nat) : Int := codes.getD j 0
def nm (j : Nat) : List UInt8 := names.getD j []
theorem nm_eq : ∀ j : Fin 41, nm j.val = name (cd j.val) := by decide +kernel
theorem cd_get : ∀ j : Fin 41, codes[j.val]? = some (cd j.val) := by decide
theorem nm_get : ∀ j : Fin 41, names[j.val]? = some (nm j.val) := by decide
theorem not_code {c : Int} (h : ∀ j, j < 41 → cd j ≠ c) : c ∉ codes := fun hc => by
  obtain ⟨j, hj, e⟩ := List.mem_iff_getElem.1 hc
  have h41 : j < 41 := hj
  have := cd_get ⟨j, h41⟩
  simp only [List.getElem?_eq_getElem hj, Option.some.injEq] at this
  exact h j h41 (this ▸ e)
end Go.Proofs.Ytcojhfppipdfoab.M
namespace Go.Proofs.Ytcojhfppipdfoab.B
open Go.ChangeShapes Go.WideShapes Go.ChangeAt Go.RowKit Go.Maps
open Go.Sort hiding Below
set_option linter.unusedVariables false

set_option maxRecDepth 100000 in
set_option maxHeartbeats 4000000 in
theorem rall_any (w : World) :
    Calls Try.prog 29 #[] w fun e w' => e = .returned (.slice (some ⟨w.heap.size, 0, none⟩) 41 41) ∧ w' = w.alloc (.cells (M.codes.map (Value.int .u16)).toArray 29) := by
  go_enter Try.func29, Try.ntmps29
  go_wp2
  go_ret
  exact ⟨rfl, rfl⟩

theorem cell_lit (w : World) (l : List Value) (t : TypeId) (j : Nat) : (w.alloc (.cells l.toArray t)).cell? ⟨w.heap.size, j, none⟩ = l[j]? := by
  simp only [World.cell?, World.alloc_heap_new]
  simp
def sv (s : List UInt8) : Value := .string ⟨s.toArray⟩

set_option maxRecDepth 100000 in
set_option maxHeartbeats 4000000 in
theorem rname_any (c : Int) (w : World) :
    Calls Try.prog 21 #[.int .u16 c] w fun e w' => e = .returned (.string ⟨(M.name c).toArray⟩) ∧ Below w.heap.size w w' := by
  go_enter Try.func21, Try.ntmps21
  go_wp2_with fail
  refine (rall_any _).mono ?_
  rintro e W ⟨rfl, hW⟩
  have hw : W = (w.alloc (.cells (M.names.map sv).toArray 9)).alloc (.cells (M.codes.map (Value.int .u16)).toArray 29) := hW
  clear hW
  have hs : (w.alloc (.cells (M.names.map sv).toArray 9)).heap.size = w.heap.size + 1 := by simp
  have hc : ∀ j : Nat, j < 41 → W.cell? ⟨w.heap.size + 1, j, none⟩ = some (.int .u16 (M.cd j)) := fun j hj => by
    rw [hw, ← hs, cell_lit, List.getElem?_map, M.cd_get ⟨j, hj⟩]; rfl
  have hn : ∀ j : Nat, j < 41 → W.cell? ⟨w.heap.size, j, none⟩ = some (.string ⟨(M.nm j).toArray⟩) := fun j hj => by
    rw [hw, World.cell?_alloc_some _ _ _ (by rw [cell_lit, List.getElem?_map, M.nm_get ⟨j, hj⟩]; rfl), cell_lit, List.getElem?_map, M.nm_get ⟨j, hj⟩]; rfl
  have HB : Hid (Below w.heap.size w W) := by
    rw [hw]
    exact ((Below.refl _ w).alloc (Nat.le_refl _) _).alloc (by simp) _
  clear hw hs
  have HC := hid hc
  have HN := hid hn
  clear hc hn
  go_wp2
  go_loop [5] (fun i => ∃ k : Nat, k ≤ 41 ∧ i = .int .i64 (k : Int) ∧ ∀ j, j < k → M.cd j ≠ c) (fun i => (41 - intOf i).toNat)
  case atStart => exact ⟨0, by omega, rfl, fun j hj => by omega⟩
  case round =>
    obtain ⟨k, hk, rfl, hall⟩ := hrel
    have HA := hid hall
    clear hall
    by_cases h41 : k < 41
    · have hck := HC.out k h41
      have hnk := HN.out k h41
      have hkz : (k : Int) < 41 := by omega
      by_cases he : M.cd k = c
      · have hq : (M.cd k == c) = true := by simpa using he
        have HE := hid he
        clear he
        go_wp2
        go_ret
        exact ⟨by rw [← HE.out, ← M.nm_eq ⟨k, h41⟩]; rfl, HB.out⟩
      · have hq : (M.cd k == c) = false := by simpa using he
        have HE := hid he
        clear he
        go_wp2
        go_round
        case rel => exact ⟨k + 1, by omega, by go_num, fun j hj => by
          by_cases e : j = k
          · rw [e]; exact HE.out
          · exact HA.out j (by omega)⟩
        case measure => simp [intOf]; omega
    · obtain rfl : k = 41 := by omega
      go_wp2
      go_ret
      refine ⟨?_, HB.out⟩
      have := M.not_code HA.out
      rw [← M.name_codes, ne_eq, Classical.not_not] at this
      rw [this]
      rfl
end Go.Proofs.Ytcojhfppipdfoab.B
