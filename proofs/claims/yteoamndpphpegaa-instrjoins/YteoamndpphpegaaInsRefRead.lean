/-
  The reference's reading of a text, as walks over the Go text.
-/
import Derived.Test.YteoamndpphpegaaInsReads
import Derived.Test.YteoamndpphpegaaPure
namespace Go.Proofs.Yteoamndpphpegaa.B
open Go.ChangeShapes Go.WideShapes Go.ChangeAt Go.RowKit
set_option linter.unusedVariables false

theorem rread_empty (s : ByteArray) (w : World) (h : s.size = 0) :
    Calls Try.prog 10 #[.string s] w fun e w' => e = .returned (.tuple #[.slice none 0 0, .int .i64 4]) ∧ w' = w := by
  have h1 : s = { data := #[] } := by
    apply M.bytes_ext
    have : s.data.size = 0 := h
    simp [Array.size_eq_zero_iff.1 this]
  subst h1
  go_enter Try.func10, Try.ntmps10
  go_wp2
  go_ret2
  exact ⟨rfl, rfl⟩
theorem ne_empty {s : ByteArray} (h : 0 < s.size) : s.toList.isEmpty = false := by
  rw [ByteArray.toList_eq, List.isEmpty_eq_false_iff]
  intro e
  have : s.data.size = 0 := by rw [← Array.length_toList, e]; rfl
  have e2 : s.data.size = s.size := rfl
  omega
theorem rread_broken (s : ByteArray) (w : World) (h : 0 < s.size) (h' : s.size % 8 ≠ 0) (hs : s.size ≤ 1000000000000000) :
    Calls Try.prog 10 #[.string s] w fun e w' => e = .returned (.tuple #[.slice none 0 0, .int .i64 4]) ∧ w' = w := by
  have h1 := ne_empty h
  have h2 : (0 : Int) < (s.size : Int) % 8 := by omega
  go_enter Try.func10, Try.ntmps10
  go_wp2
  go_ret2
  exact ⟨rfl, rfl⟩
theorem rread_long (s : ByteArray) (w : World) (h : 32768 < s.size) (h' : s.size % 8 = 0) (hs : s.size ≤ 1000000000000000) :
    Calls Try.prog 10 #[.string s] w fun e w' => e = .returned (.tuple #[.slice none 0 0, .int .i64 5]) ∧ w' = w := by
  have h1 := ne_empty (s := s) (by omega)
  have h2 : decide ((0 : Int) < (s.size : Int) % 8) = false := by simp; omega
  go_enter Try.func10, Try.ntmps10
  go_wp2
  go_ret2
  exact ⟨rfl, rfl⟩

theorem idx (s : ByteArray) (p : Nat) (i : Int) (hi : i = (p : Int)) (b : Int) (h : p < s.size) (hb : M.at_ s p = b) (W : World) : (Instr.index 9 (.string s) (.int .i64 i)).run Try.prog W = .ok (.int .u8 b) W := by
  subst hi
  rw [run_index_string W 9 s .i64 (p : Int) Try.underlying9, dif_pos (by omega)]
  subst hb
  rw [← M.at_get s p h]
  rfl

set_option maxHeartbeats 1600000 in
set_option maxRecDepth 1000000 in
theorem rread_all (s : ByteArray) (n : Nat) (w : World) (h : s.size = 8 * n) (h0 : 0 < n) (h1 : n ≤ 4096) :
    Calls Try.prog 10 #[.string s] w fun e w' => ∃ g cap, e = .returned (.tuple #[.slice (some ⟨g, 0, none⟩) n cap, .int .i64 0]) ∧ w'.ownsRow w.heap.size 39 4 (.slice (some ⟨g, 0, none⟩) n cap) n (i4s (M.rdl s n)) ∧ Below w.heap.size w w' := by
  obtain ⟨i0, hi, hz0, hz1, hz2⟩ := info_parts info39
  have e0 := ne_empty (s := s) (by omega)
  have e1 : decide ((0 : Int) < (s.size : Int) % 8) = false := by simp; omega
  have HN : Hid (s.size = 8 * n) := h
  have hle : s.size ≤ 32768 := by omega
  clear h
  go_enter Try.func10, Try.ntmps10
  go_wp2
  go_loopw [4, 5] (fun v i wr => ∃ k : Nat, k ≤ n ∧ i = .int .i64 (8 * (k : Int)) ∧ wr.ownsRow w.heap.size 39 4 v k (i4s (M.rdl s k)) ∧ Below w.heap.size w wr)
    (fun _ i _ => 8 * n - (intOf i).toNat)
  case atStart => exact ⟨0, Nat.zero_le _, rfl, World.ownsRow_nil _ _ _ _, Below.refl _ _⟩
  case round =>
    obtain ⟨k, hk, rfl, hown, hnx⟩ := hrel
    by_cases hlt : k < n
    · have hh := HN.out
      have j1 : 8 * (k : Int) < (s.size : Int) := by omega
      have j2 : 8 * (k : Int) + 7 < (s.size : Int) := by omega
      obtain ⟨b0, g0⟩ : ∃ b, M.at_ s (8 * k) = b := ⟨_, rfl⟩
      obtain ⟨b1, g1⟩ : ∃ b, M.at_ s (8 * k + 1) = b := ⟨_, rfl⟩
      obtain ⟨b2, g2⟩ : ∃ b, M.at_ s (8 * k + 2) = b := ⟨_, rfl⟩
      obtain ⟨b3, g3⟩ : ∃ b, M.at_ s (8 * k + 3) = b := ⟨_, rfl⟩
      obtain ⟨b4, g4⟩ : ∃ b, M.at_ s (8 * k + 4) = b := ⟨_, rfl⟩
      obtain ⟨b5, g5⟩ : ∃ b, M.at_ s (8 * k + 5) = b := ⟨_, rfl⟩
      obtain ⟨b6, g6⟩ : ∃ b, M.at_ s (8 * k + 6) = b := ⟨_, rfl⟩
      obtain ⟨b7, g7⟩ : ∃ b, M.at_ s (8 * k + 7) = b := ⟨_, rfl⟩
      have a0 := idx s (8 * k) (8 * (k : Int)) (by omega) b0 (by omega) g0
      have a1 := idx s (8 * k + 1) (8 * (k : Int) + 1) (by omega) b1 (by omega) g1
      have a2 := idx s (8 * k + 2) (8 * (k : Int) + 2) (by omega) b2 (by omega) g2
      have a3 := idx s (8 * k + 3) (8 * (k : Int) + 3) (by omega) b3 (by omega) g3
      have a4 := idx s (8 * k + 4) (8 * (k : Int) + 4) (by omega) b4 (by omega) g4
      have a5 := idx s (8 * k + 5) (8 * (k : Int) + 5) (by omega) b5 (by omega) g5
      have a6 := idx s (8 * k + 6) (8 * (k : Int) + 6) (by omega) b6 (by omega) g6
      have a7 := idx s (8 * k + 7) (8 * (k : Int) + 7) (by omega) b7 (by omega) g7
      have d0 := M.at_bd s (8 * k); rw [g0] at d0
      have d1 := M.at_bd s (8 * k + 1); rw [g1] at d1
      have d4 := M.at_bd s (8 * k + 4); rw [g4] at d4
      have d5 := M.at_bd s (8 * k + 5); rw [g5] at d5
      have d6 := M.at_bd s (8 * k + 6); rw [g6] at d6
      have d7 := M.at_bd s (8 * k + 7); rw [g7] at d7
      have HX : Hid (i4s (M.rdl s (k + 1)) = i4s (M.rdl s k) ++ [.int .u16 (b0 + 256 * b1), .int .u8 b2, .int .u8 b3, .int .u32 (b4 + 256 * b5 + 65536 * b6 + 16777216 * b7)]) := by
        show _ = _
        rw [M.rdl_succ, i4s_snoc, ← g0, ← g1, ← g2, ← g3, ← g4, ← g5, ← g6, ← g7]; rfl
      have v0 : IntKind.u16.wrap b0 = b0 := by rw [IntKind.wrap_u16]; omega
      have v1 : IntKind.u16.wrap b1 = b1 := by rw [IntKind.wrap_u16]; omega
      have v4 : IntKind.u32.wrap b4 = b4 := by rw [IntKind.wrap_u32]; omega
      have v5 : IntKind.u32.wrap b5 = b5 := by rw [IntKind.wrap_u32]; omega
      have v6 : IntKind.u32.wrap b6 = b6 := by rw [IntKind.wrap_u32]; omega
      have v7 : IntKind.u32.wrap b7 = b7 := by rw [IntKind.wrap_u32]; omega
      have w1 : IntKind.i64.wrap (8 * (k : Int) + 1) = 8 * (k : Int) + 1 := by rw [IntKind.wrap_i64]; omega
      have w2 : IntKind.i64.wrap (8 * (k : Int) + 2) = 8 * (k : Int) + 2 := by rw [IntKind.wrap_i64]; omega
      have w3 : IntKind.i64.wrap (8 * (k : Int) + 3) = 8 * (k : Int) + 3 := by rw [IntKind.wrap_i64]; omega
      have w4 : IntKind.i64.wrap (8 * (k : Int) + 4) = 8 * (k : Int) + 4 := by rw [IntKind.wrap_i64]; omega
      have w5 : IntKind.i64.wrap (8 * (k : Int) + 5) = 8 * (k : Int) + 5 := by rw [IntKind.wrap_i64]; omega
      have w6 : IntKind.i64.wrap (8 * (k : Int) + 6) = 8 * (k : Int) + 6 := by rw [IntKind.wrap_i64]; omega
      have w7 : IntKind.i64.wrap (8 * (k : Int) + 7) = 8 * (k : Int) + 7 := by rw [IntKind.wrap_i64]; omega
      have x1 : IntKind.u16.wrap (256 * b1) = 256 * b1 := by rw [IntKind.wrap_u16]; omega
      have x5 : IntKind.u32.wrap (256 * b5) = 256 * b5 := by rw [IntKind.wrap_u32]; omega
      have x6 : IntKind.u32.wrap (65536 * b6) = 65536 * b6 := by rw [IntKind.wrap_u32]; omega
      have x7 : IntKind.u32.wrap (16777216 * b7) = 16777216 * b7 := by rw [IntKind.wrap_u32]; omega
      have y1 : IntKind.u16.wrap (b0 + 256 * b1) = b0 + 256 * b1 := by rw [IntKind.wrap_u16]; omega
      have y5 : IntKind.u32.wrap (b4 + 256 * b5) = b4 + 256 * b5 := by rw [IntKind.wrap_u32]; omega
      have y6 : IntKind.u32.wrap (b4 + 256 * b5 + 65536 * b6) = b4 + 256 * b5 + 65536 * b6 := by rw [IntKind.wrap_u32]; omega
      have y7 : IntKind.u32.wrap (b4 + 256 * b5 + 65536 * b6 + 16777216 * b7) = b4 + 256 * b5 + 65536 * b6 + 16777216 * b7 := by rw [IntKind.wrap_u32]; omega
      clear hh g0 g1 g2 g3 g4 g5 g6 g7
      go_wp2
      refine wp_region_pure_tail 47 (by kernel_rfl) (by kernel_rfl) ?_
      simp only [List.take_succ_cons, List.take_zero, List.drop_succ_cons, List.drop_zero]
      repeat
        refine wpPure_cons (v := ?_) (Or.inl ⟨by rfl, ?_⟩) ?_
        rotate_left
        · (intro W; go_simp; try with_reducible rfl)
        simp only [Act.put, List.setIfInBounds_toArray, List.set_cons_zero, List.set_cons_succ]
      refine wpPure_nil ?_
      have hown1 := hown.drew
      have hsz := hnx.size
      clear hown a0 a1 a2 a3 a4 a5 a6 a7 w1 w2 w3 w4 w5 w6 w7 x1 x5 x6 x7 y1 y5 y6 y7 v0 v1 v4 v5 v6 v7
      go_wp2_with (at_builtin; refine wpList_append_lies _ rfl _ _ 23 rfl w.heap.size 39 i0 (.agg #[.int .u16 0, .int .u8 0, .int .u8 0, .int .u32 0]) 4 8 Try.underlying23 hi hz0 hz1 hz2 rfl (by decide) _ k _ rfl ((hown1.alloc _)) ⟨wr.heap.size, 0, none⟩ 1 1 [.int .u16 (b0 + 256 * b1), .int .u8 b2, .int .u8 b3, .int .u32 (b4 + 256 * b5 + 65536 * b6 + 16777216 * b7)] rfl rfl ?c1 ?c2 (by decide) ?c3 ?c4 ?c5 (wr.heap.size + 1) ?c6 ?_)
      case c1 => exact news1 wr _ rfl
      case c2 => intro u hu; simp at hu; rcases hu with rfl | rfl | rfl | rfl <;> rfl
      case c3 => unfold maxLen; omega
      case c4 => omega
      case c5 => simp; omega
      case c6 => simp
      · intro g cap w2 hown2 hgrow hat hlt2
        rw [← HX.out] at hown2
        have HH : Hid (w2.ownsRow w.heap.size 39 4 (.slice (some ⟨g, 0, none⟩) (k + 1) cap) (k + 1) (i4s (M.rdl s (k + 1))) ∧ Below w.heap.size w w2) :=
          ⟨hown2, hnx.drew.trans (below_own1 hown1 hsz hgrow)⟩
        clear hown1 hown2 hgrow hat hnx HX
        go_wp2
        refine NoPanic.normal ?_
        go_wp2
        go_roundw
        case rel => exact ⟨k + 1, by omega, by go_num, HH.out.1, HH.out.2⟩
        case measure => simp [intOf]; omega
    · obtain rfl : k = n := by omega
      obtain ⟨g, cap, hv⟩ := own_form hown h0
      rw [hv] at hown ⊢
      have HH : Hid (wr.ownsRow w.heap.size 39 4 (.slice (some ⟨g, 0, none⟩) k cap) k (i4s (M.rdl s k))) := hown
      have j1 : ¬ 8 * (k : Int) < (s.size : Int) := by have := HN.out; omega
      clear hown
      go_wp2
      go_ret2
      exact ⟨g, cap, rfl, HH.out, hnx⟩
end Go.Proofs.Yteoamndpphpegaa.B
