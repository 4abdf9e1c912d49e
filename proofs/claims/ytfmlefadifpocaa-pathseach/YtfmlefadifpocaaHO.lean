/-
  The reference's Local, Next and whole, as walks over the Go text.
-/
import Derived.Test.YtfmlefadifpocaaHN
namespace Go.Proofs.Ytfmlefadifpocaa.M
theorem loc10' {n i : Nat} {c t f k : Int} (h : kind c = 10) : loc n i (c, t, f, k) = if c = 52 ∧ k = 0 then 8 else if (c = 100 ∨ c = 116) ∧ 32 ≤ k then 9 else 0 := by
  unfold loc
  simp only
  rw [if_neg (by omega), if_neg (by omega), if_neg (by omega), if_pos h]
theorem loc12' {n i : Nat} {c t f k : Int} (h : kind c = 12) : loc n i (c, t, f, k) = if (n : Int) ≤ i + 1 + t ∨ (n : Int) ≤ i + 1 + f then 7 else 0 := by
  unfold loc
  simp only
  rw [if_neg (by omega), if_neg (by omega), if_neg (by omega), if_neg (by omega), if_neg (by omega), if_pos h]
end Go.Proofs.Ytfmlefadifpocaa.M
namespace Go.Proofs.Ytfmlefadifpocaa.B
open Go.ChangeShapes Go.WideShapes Go.ChangeAt Go.RowKit
open Go.Sort hiding Below
set_option linter.unusedVariables false

set_option maxHeartbeats 3200000 in
set_option maxRecDepth 100000 in
theorem rlocal_at (b o n cap j : Nat) (c t f k : Int) (hn : n ≤ 65536) (hj : j < n) (ok : M.okI (c, t, f, k)) (w : World) (hl : LiesAt w b o j (c, t, f, k)) :
    Calls Try.prog 56 #[.slice (some ⟨b, o, none⟩) n cap, .int .i64 j] w fun e w' => e = .returned (.int .i64 (M.loc n j (c, t, f, k))) ∧ Below w.heap.size w w' := by
  obtain ⟨p0, p1, p2, p3⟩ := hl
  simp only at p0 p1 p2 p3
  have i1 : (j : Int) < (n : Int) := by omega
  have b0 : 0 ≤ c ∧ c < 65536 := ok.1
  have b1 : 0 ≤ t ∧ t < 256 := ok.2.1
  have b2 : 0 ≤ f ∧ f < 256 := ok.2.2.1
  have b3 : 0 ≤ k ∧ k < 4294967296 := ok.2.2.2
  have hb0 := hid b0
  clear ok b0
  have HA := hid (al w (.cells #[.int .u16 c, .int .u8 t, .int .u8 f, .int .u32 k] 38))
  have hA := At.new w c t f k
  go_enter Try.func56, Try.ntmps56
  go_wp2_with fail
  refine (rkind_any _ hb0.out.1 hb0.out.2 _).mono ?_
  rintro e w1 ⟨rfl, hb⟩
  replace hA := hA.below hb
  replace HA := stp HA hb
  obtain ⟨a0, a1, a2, a3, _⟩ := hA.cells
  clear hb hA
  go_wp2
  all_goals go_ret
  · have e : M.kind c = 0 := eq_of_beq (by assumption)
    exact ⟨by rw [M.loc0 e]; rfl, HA.out⟩
  · rename_i h
    have e : M.kind c = 1 := eq_of_beq (by assumption)
    exact ⟨by rw [M.loc1 e, show M.ldE k = 11 from if_pos (by simpa using h)]; rfl, HA.out⟩
  · rename_i h
    have e : M.kind c = 1 := eq_of_beq (by assumption)
    exact ⟨by rw [M.loc1 e, show M.ldE k = 0 from if_neg (by simp at h; omega)]; rfl, HA.out⟩
  · rename_i h
    have e : M.kind c = 1 := eq_of_beq (by assumption)
    exact ⟨by rw [M.loc1 e, show M.ldE k = 11 from if_pos (Or.inl h)]; rfl, HA.out⟩
  · rename_i h
    have e : M.kind c = 4 := eq_of_beq (by assumption)
    exact ⟨by rw [M.loc4 (by omega), show M.scE k = 10 from if_pos h]; rfl, HA.out⟩
  · rename_i h
    have e : M.kind c = 4 := eq_of_beq (by assumption)
    exact ⟨by rw [M.loc4 (by omega), show M.scE k = 0 from if_neg (by omega)]; rfl, HA.out⟩
  · rename_i h
    have e : M.kind c = 6 := eq_of_beq (by assumption)
    exact ⟨by rw [M.loc4 (by omega), show M.scE k = 10 from if_pos h]; rfl, HA.out⟩
  · rename_i h
    have e : M.kind c = 6 := eq_of_beq (by assumption)
    exact ⟨by rw [M.loc4 (by omega), show M.scE k = 0 from if_neg (by omega)]; rfl, HA.out⟩
  · rename_i h
    have e : M.kind c = 8 := eq_of_beq (by assumption)
    exact ⟨by rw [M.loc4 (by omega), show M.scE k = 10 from if_pos h]; rfl, HA.out⟩
  · rename_i h
    have e : M.kind c = 8 := eq_of_beq (by assumption)
    exact ⟨by rw [M.loc4 (by omega), show M.scE k = 0 from if_neg (by omega)]; rfl, HA.out⟩
  · rename_i h
    have e : M.kind c = 9 := eq_of_beq (by assumption)
    exact ⟨by rw [M.loc4 (by omega), show M.scE k = 10 from if_pos h]; rfl, HA.out⟩
  · rename_i h
    have e : M.kind c = 9 := eq_of_beq (by assumption)
    exact ⟨by rw [M.loc4 (by omega), show M.scE k = 0 from if_neg (by omega)]; rfl, HA.out⟩
  · rename_i h1 h2
    have e : M.kind c = 10 := eq_of_beq (by assumption)
    exact ⟨by rw [M.loc10' e, if_pos ⟨h1, eq_of_beq h2⟩]; rfl, HA.out⟩
  · rename_i h1 h2
    have e : M.kind c = 10 := eq_of_beq (by assumption)
    exact ⟨by rw [M.loc10' e, if_neg (by simp at h2; omega), if_neg (by omega)]; rfl, HA.out⟩
  · rename_i h1 h2
    have e : M.kind c = 10 := eq_of_beq (by assumption)
    exact ⟨by rw [M.loc10' e, if_neg (by omega), if_pos (by omega)]; rfl, HA.out⟩
  · rename_i h1 h2
    have e : M.kind c = 10 := eq_of_beq (by assumption)
    exact ⟨by rw [M.loc10' e, if_neg (by omega), if_neg (by omega)]; rfl, HA.out⟩
  · rename_i h1 h2
    have e : M.kind c = 10 := eq_of_beq (by assumption)
    exact ⟨by rw [M.loc10' e, if_neg (by omega), if_pos (by omega)]; rfl, HA.out⟩
  · rename_i h1 h2
    have e : M.kind c = 10 := eq_of_beq (by assumption)
    exact ⟨by rw [M.loc10' e, if_neg (by omega), if_neg (by omega)]; rfl, HA.out⟩
  · rename_i h1 h2 h3
    have e : M.kind c = 10 := eq_of_beq (by assumption)
    exact ⟨by rw [M.loc10' e, if_neg (by omega), if_neg (by omega)]; rfl, HA.out⟩
  · rename_i h
    have e : M.kind c = 11 := eq_of_beq (by assumption)
    exact ⟨by rw [M.loc11 e, show M.jpE n j k = 7 from if_pos h]; rfl, HA.out⟩
  · rename_i h
    have e : M.kind c = 11 := eq_of_beq (by assumption)
    exact ⟨by rw [M.loc11 e, show M.jpE n j k = 0 from if_neg (by omega)]; rfl, HA.out⟩
  · rename_i h
    have e : M.kind c = 12 := eq_of_beq (by assumption)
    exact ⟨by rw [M.loc12' e, if_pos h]; rfl, HA.out⟩
  · rename_i h
    have e : M.kind c = 12 := eq_of_beq (by assumption)
    exact ⟨by rw [M.loc12' e, if_neg (by omega)]; rfl, HA.out⟩
  · rename_i h
    have e : M.kind c = 12 := eq_of_beq (by assumption)
    exact ⟨by rw [M.loc12' e, if_pos (Or.inl h)]; rfl, HA.out⟩
  · rename_i h0 h1 h2 h3 h4 h5 h6 h7 h8
    rw [beq_eq_false_iff_ne] at h0 h1 h2 h3 h4 h5 h6 h7 h8
    exact ⟨by rw [M.loc_else (by omega)]; rfl, HA.out⟩
theorem rlocal_ly (b o n cap j : Nat) (l : List M.I) (hln : l.length = n) (hn : n ≤ 65536) (hj : j < l.length) (ok : ∀ i ∈ l, M.okI i) (w : World) (hl : Ly w b o l) :
    Calls Try.prog 56 #[.slice (some ⟨b, o, none⟩) n cap, .int .i64 j] w fun e w' => e = .returned (.int .i64 (M.loc n j l[j])) ∧ Below w.heap.size w w' :=
  rlocal_at b o n cap j l[j].1 l[j].2.1 l[j].2.2.1 l[j].2.2.2 hn (by omega) (ok _ (List.getElem_mem hj)) w (hl.2 j hj)
end Go.Proofs.Ytfmlefadifpocaa.B
