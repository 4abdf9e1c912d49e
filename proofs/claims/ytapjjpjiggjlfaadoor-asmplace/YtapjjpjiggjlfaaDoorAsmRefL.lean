/-
  The document's own number, what is written, and line, as walks over the Go text.
-/
import Derived.Test.YtapjjpjiggjlfaaDoorAsmLine
import Derived.Test.YtapjjpjiggjlfaaDoorCodRefs
namespace Go.Proofs.YtapjjpjiggjlfaaDoor.B
open Go.ChangeShapes Go.WideShapes Go.ChangeAt Go.RowKit
open Go.Sort hiding Below
set_option linter.unusedVariables false

theorem conv1 (w : World) (d : Nat) (hd : d < 10) : (convert 70 9 (.slice (some ⟨w.heap.size, 0, none⟩) 1 1)).run Tryd.prog (w.alloc (.cells #[.int .u8 (48 + (d : Int))] 5)) = .ok (.string ⟨#[UInt8.ofNat (48 + d)]⟩) (w.alloc (.cells #[.int .u8 (48 + (d : Int))] 5)) := by
  have h := run_convert_bytes_back (P := Tryd.prog) (w.alloc (.cells #[.int .u8 (48 + (d : Int))] 5)) 70 9 5 ⟨w.heap.size, 0, none⟩ 1 [UInt8.ofNat (48 + d)] Tryd.underlying70 Tryd.underlying5 Tryd.underlying9 (fun j hj => by
    obtain rfl : j = 0 := by simpa using hj
    rw [Lib.add_plain, World.cell?_alloc_new]
    simp only [List.getElem_singleton, M.ofNat_toNat hd]
    rfl)
  exact h

set_option maxHeartbeats 1600000 in
set_option maxRecDepth 100000 in
theorem rnumber_any (n : Nat) : n < 4294967296 → ∀ w : World,
    Calls Tryd.prog 20 #[.int .u32 n] w fun e w' => e = .returned (.string ⟨(M.num n).toArray⟩) ∧ Below w.heap.size w w' := by
  induction n using Nat.strongRecOn with
  | ind n ih =>
    intro hn w
    have hd : n % 10 < 10 := by omega
    obtain ⟨D, hD⟩ : ∃ D : ByteArray, D = ⟨#[UInt8.ofNat (48 + n % 10)]⟩ := ⟨_, rfl⟩
    have hcv := conv1 w (n % 10) hd
    rw [show ((n % 10 : Nat) : Int) = (n : Int) % 10 by omega, ← hD] at hcv
    have hDs : D.size = 1 := by rw [hD]; rfl
    have HD := Lib.hid hD
    clear hD hd
    by_cases hs : n < 10
    · have hsi : (n : Int) < 10 := by omega
      clear ih
      go_enter Tryd.func20, Tryd.ntmps20
      go_wp2
      go_ret
      refine ⟨?_, (Below.refl _ _).alloc (Nat.le_refl _) _⟩
      rw [M.num_small hs, HD.out, show n % 10 = n by omega]
      rfl
    · have hsi : ¬ (n : Int) < 10 := by omega
      obtain ⟨T, hT⟩ : ∃ T : ByteArray, T = ⟨(M.num (n / 10)).toArray⟩ := ⟨_, rfl⟩
      have hTs : T.size ≤ 20 := by rw [hT, bar]; exact M.num_len _
      have hq : IntKind.u32.wrap ((n : Int).tdiv 10) = ((n / 10 : Nat) : Int) := by rw [IntKind.wrap_u32, Int.tdiv_eq_ediv_of_nonneg (by omega)]; omega
      have cR := ih (n / 10) (by omega) (by omega)
      rw [← hT] at cR
      have cR' : ∀ w, Calls Tryd.prog 20 #[.int .u32 ((n : Int) / 10)] w fun e w' => e = .returned (.string T) ∧ Below w.heap.size w w' := by
        intro w
        have := cR w
        rw [show ((n / 10 : Nat) : Int) = (n : Int) / 10 by omega] at this
        exact this
      have HT := Lib.hid hT
      clear ih cR hT hq
      go_enter Tryd.func20, Tryd.ntmps20
      go_wp2_with (go_at_call 20; refine (cR' _).mono ?_; rintro e w1 ⟨rfl, hb⟩)
      go_ret
      refine ⟨?_, ((Below.refl _ _).alloc (Nat.le_refl _) _).trans (hb.mono (by simp))⟩
      rw [M.num_big hs hn]
      obtain rfl := HD.out
      obtain rfl := HT.out
      congr 2

theorem rk_low {c : Int} (h : (M.kind c == 10) = true ∨ (M.kind c == 12) = true) (h1 : (M.kind c == 1) = false) (h2 : (M.kind c == 3) = false) (h3 : (M.kind c == 4) = false) (h4 : (M.kind c == 5) = false) (h5 : (M.kind c == 6) = false) (h6 : (M.kind c == 8) = false) (h7 : (M.kind c == 9) = false) (h8 : (M.kind c == 11) = false) (h9 : (M.kind c == 13) = false) : (!M.rdX c && (c != 132)) = M.hasK c := by
  have h10 : (M.kind c == 10 || M.kind c == 12) = true := by rcases h with h | h <;> simp [h]
  simp only [M.hasK, h1, h2, h3, h4, h5, h6, h7, h8, h9, h10]
  simp
theorem rk_none {c : Int} (h1 : (M.kind c == 1) = false) (h2 : (M.kind c == 3) = false) (h3 : (M.kind c == 4) = false) (h4 : (M.kind c == 5) = false) (h5 : (M.kind c == 6) = false) (h6 : (M.kind c == 8) = false) (h7 : (M.kind c == 9) = false) (h8 : (M.kind c == 11) = false) (h9 : (M.kind c == 13) = false) (h10 : (M.kind c == 10) = false) (h11 : (M.kind c == 12) = false) : false = M.hasK c := by
  simp only [M.hasK, h1, h2, h3, h4, h5, h6, h7, h8, h9, h10, h11]
  rfl
set_option maxHeartbeats 1600000 in
set_option maxRecDepth 100000 in
theorem rhask_any (c : Int) (h0 : 0 ≤ c) (h1 : c < 65536) (w : World) :
    Calls Tryd.prog 26 #[.int .u16 c] w fun e w' => e = .returned (.bool (M.hasK c)) ∧ Below w.heap.size w w' := by
  have cR := fun w => rrdX_any c h0 h1 w
  obtain ⟨r, hr⟩ : ∃ r, r = M.rdX c := ⟨_, rfl⟩
  rw [← hr] at cR
  have HR := Lib.hid hr
  clear hr
  go_enter Tryd.func26, Tryd.ntmps26
  go_wp2_with (first
    | (go_at_call 25; refine (rkind_any c h0 h1 _).mono ?_; rintro e w1 ⟨rfl, hb⟩; have hB := Lib.hid hb; clear hb)
    | (go_at_call 43; refine (cR _).mono ?_; rintro e w2 ⟨rfl, hb⟩; have hB := stp hB hb; clear hb))
  all_goals go_ret
  all_goals (refine ⟨ret_bool ?_, hB.out⟩)
  all_goals first
    | exact rk_none (by assumption) (by assumption) (by assumption) (by assumption) (by assumption) (by assumption) (by assumption) (by assumption) (by assumption) (by assumption) (by assumption)
    | (rename_i h; have e := eq_of_beq h; simp [M.hasK, e]; done)
    | (rename_i h; rw [← rk_low (Or.inl (by assumption)) (by assumption) (by assumption) (by assumption) (by assumption) (by assumption) (by assumption) (by assumption) (by assumption) (by assumption), ← HR.out]; simp [h]; done)
    | (rename_i h; rw [← rk_low (Or.inr (by assumption)) (by assumption) (by assumption) (by assumption) (by assumption) (by assumption) (by assumption) (by assumption) (by assumption) (by assumption), ← HR.out]; simp [h]; done)
end Go.Proofs.YtapjjpjiggjlfaaDoor.B
