/-
  The program of a text's bytes, as walks over the Go text: instr.Read and the reference's.
-/
import Derived.Test.YteoamndpphpegaaInsRead
import Derived.Test.YteoamndpphpegaaInsPrint
import Derived.Laws.Strings2
import Derived.Laws.Strings3
namespace Go.Proofs.Yteoamndpphpegaa.B
open Go.ChangeShapes Go.WideShapes Go.ChangeAt Go.RowKit
set_option linter.unusedVariables false

theorem read_empty (s : ByteArray) (w : World) (h : s.size = 0) :
    Calls Try.prog 9 #[.string s] w fun e w' => e = .returned (.tuple #[.slice none 0 0, .int .i64 4]) ∧ w' = w := by
  have h1 : ((s.size : Int) == 0) = true := by simp [h]
  go_enter Try.func9, Try.ntmps9
  go_wp2
  go_ret2
  exact ⟨rfl, rfl⟩
theorem read_broken (s : ByteArray) (w : World) (h : 0 < s.size) (h' : s.size % 8 ≠ 0) (hs : s.size ≤ 1000000000000000) :
    Calls Try.prog 9 #[.string s] w fun e w' => e = .returned (.tuple #[.slice none 0 0, .int .i64 4]) ∧ w' = w := by
  have h1 : ((s.size : Int) == 0) = false := beq_eq_false_iff_ne.2 (by omega)
  have h2 : ((s.size : Int) % 8 != 0) = true := by rw [bne_iff_ne]; omega
  go_enter Try.func9, Try.ntmps9
  go_wp2
  go_ret2
  exact ⟨rfl, rfl⟩
theorem read_long (s : ByteArray) (w : World) (h : 32768 < s.size) (h' : s.size % 8 = 0) (hs : s.size ≤ 1000000000000000) :
    Calls Try.prog 9 #[.string s] w fun e w' => e = .returned (.tuple #[.slice none 0 0, .int .i64 5]) ∧ w' = w := by
  have h1 : ((s.size : Int) == 0) = false := beq_eq_false_iff_ne.2 (by omega)
  have h2 : ((s.size : Int) % 8 != 0) = false := by rw [bne_eq_false_iff_eq]; omega
  go_enter Try.func9, Try.ntmps9
  go_wp2
  go_ret2
  exact ⟨rfl, rfl⟩

def i4s (l : List M.I) : List Value := l.flatMap fun i => [.int .u16 i.1, .int .u8 i.2.1, .int .u8 i.2.2.1, .int .u32 i.2.2.2]
theorem i4s_snoc (l : List M.I) (i : M.I) : i4s (l ++ [i]) = i4s l ++ [.int .u16 i.1, .int .u8 i.2.1, .int .u8 i.2.2.1, .int .u32 i.2.2.2] := by simp [i4s]

theorem at_extract (s : ByteArray) (p q i : Nat) (h : p + i < q) (hq : q ≤ s.size) : M.at_ (s.extract p q) i = M.at_ s (p + i) := by
  unfold M.at_
  congr 2
  rw [List.getD_eq_getElem?_getD, List.getD_eq_getElem?_getD]
  congr 1
  have e : (s.extract p q).data = s.data.extract p q := ByteArray.data_extract
  rw [e, Array.getElem?_toList, Array.getElem?_toList, Array.getElem?_extract, if_pos (by have : s.data.size = s.size := rfl; omega)]
theorem rd_extract (s : ByteArray) (p : Nat) (h : p + 8 ≤ s.size) : M.rd (s.extract p (p + 8)) 0 = M.rd s p := by
  unfold M.rd
  rw [at_extract s p (p + 8) 0 (by omega) h, at_extract s p (p + 8) (0 + 1) (by omega) h, at_extract s p (p + 8) (0 + 2) (by omega) h, at_extract s p (p + 8) (0 + 3) (by omega) h,
    at_extract s p (p + 8) (0 + 4) (by omega) h, at_extract s p (p + 8) (0 + 5) (by omega) h, at_extract s p (p + 8) (0 + 6) (by omega) h, at_extract s p (p + 8) (0 + 7) (by omega) h]
  simp
theorem read_at (s : ByteArray) (p : Nat) (h : p + 8 ≤ s.size) (c t f k : Int) (hx : M.rd s p = (c, t, f, k)) (w : World) :
    Calls Try.prog 20 #[.string (s.extract p (p + 8))] w fun e w' => e = .returned (.agg #[.int .u16 c, .int .u8 t, .int .u8 f, .int .u32 k]) ∧ Below w.heap.size w w' := by
  have := read_any (s.extract p (p + 8)) (by rw [ByteArray.size_extract]; omega) w
  rw [rd_extract s p h, hx] at this
  exact this
theorem own_below {w w' : World} {base : Nat} {e : TypeId} {size : Nat} {v : Value} {n : Nat} {xs : List Value} (h : w.ownsRow base e size v n xs) (hb : Below w.heap.size w w') : w'.ownsRow base e size v n xs := by
  refine ⟨h.1, ?_⟩
  rcases h.2 with h' | ⟨g, cap, cur, h1, h2, h3, h4⟩
  · exact .inl h'
  · refine .inr ⟨g, cap, cur, h1, h2, ?_, h4⟩
    have hlt : g < w.heap.size := by
      rcases Nat.lt_or_ge g w.heap.size with a | a
      · exact a
      · rw [Array.getElem?_eq_none a] at h3; cases h3
    rw [hb.block g hlt]; exact h3
theorem news1 (w : World) (cs : Array Value) {t : TypeId} {l : List Value} (h : cs.toList = l) :
    ∀ (j : Nat) (u : Value), l[j]? = some u → (w.alloc (Obj.cells cs t)).cell? ((⟨w.heap.size, 0, none⟩ : Addr).add j) = some u := by
  subst h
  exact World.news_of_block (fr := (0, 0)) (t := t) (heap_alloc_new w (Obj.cells cs t))

set_option maxHeartbeats 1600000 in
set_option maxRecDepth 1000000 in
theorem read_all (s : ByteArray) (n : Nat) (w : World) (h : s.size = 8 * n) (h0 : 0 < n) (h1 : n ≤ 4096) :
    Calls Try.prog 9 #[.string s] w fun e w' => ∃ g cap, e = .returned (.tuple #[.slice (some ⟨g, 0, none⟩) n cap, .int .i64 0]) ∧ w'.ownsRow w.heap.size 39 4 (.slice (some ⟨g, 0, none⟩) n cap) n (i4s (M.rdl s n)) ∧ Below w.heap.size w w' := by
  obtain ⟨i0, hi, hz0, hz1, hz2⟩ := info_parts info39
  obtain ⟨cs, hcs, hmk⟩ := make4 n (by omega)
  have e0 : ((s.size : Int) == 0) = false := beq_eq_false_iff_ne.2 (by omega)
  have e1 : ((s.size : Int) % 8 != 0) = false := by rw [bne_eq_false_iff_eq]; omega
  have e2 : (s.size : Int) / 8 = (n : Int) := by omega
  have HN : Hid (s.size = 8 * n) := h
  have hle : s.size ≤ 32768 := by omega
  have hown0 : (w.alloc (.cells cs 39)).ownsRow w.heap.size 39 4 (.slice (some ⟨w.heap.size, 0, none⟩) 0 n) 0 [] :=
    World.ownsRow_made (base := w.heap.size) (e := 39) (size := 4) w cs n (Nat.le_refl _) (by unfold maxLen; omega) (by omega)
  have HW : Hid ((w.alloc (.cells cs 39)).ownsRow w.heap.size 39 4 (.slice (some ⟨w.heap.size, 0, none⟩) 0 n) 0 []) := hown0
  clear h hown0
  go_enter Try.func9, Try.ntmps9
  go_wp2
  go_loopw [4, 5] (fun v i wr => ∃ k : Nat, k ≤ n ∧ i = .int .i64 (8 * (k : Int)) ∧ wr.ownsRow w.heap.size 39 4 v k (i4s (M.rdl s k)) ∧ Below w.heap.size w wr)
    (fun _ i _ => 8 * n - (intOf i).toNat)
  case atStart => exact ⟨0, Nat.zero_le _, rfl, HW.out, (Below.refl _ _).alloc (Nat.le_refl _) _⟩
  case round =>
    obtain ⟨k, hk, rfl, hown, hnx⟩ := hrel
    by_cases hlt : k < n
    · have hh := HN.out
      have j1 : 8 * (k : Int) < (s.size : Int) := by omega
      have j2 : 8 * (k : Int) + 8 ≤ (s.size : Int) := by omega
      have hsl : ∀ W : World, (Instr.slice 9 (.string s) (some (.int .i64 (8 * (k : Int)))) (some (.int .i64 (8 * (k : Int) + 8))) none).run Try.prog W = .ok (.string (s.extract (8 * k) (8 * k + 8))) W := fun W => by
        have := run_slice_string (P := Try.prog) (w := W) 9 s .i64 .i64 (8 * (k : Int)) (8 * (k : Int) + 8) Try.underlying9 (by omega) (by omega) (by omega)
        rw [this]
        congr 3
      have hle8 : 8 * k + 8 ≤ s.size := by omega
      obtain ⟨c, t, f, kk, hx⟩ : ∃ c t f kk, M.rd s (8 * k) = (c, t, f, kk) := ⟨_, _, _, _, rfl⟩
      have HX : Hid (i4s (M.rdl s (k + 1)) = i4s (M.rdl s k) ++ [.int .u16 c, .int .u8 t, .int .u8 f, .int .u32 kk]) := by
        show _ = _
        rw [M.rdl_succ, i4s_snoc, hx]
      clear hh hmk HW hcs
      go_wp2_with fail
      refine (read_at s (8 * k) hle8 c t f kk hx wr).mono ?_
      rintro e w1 ⟨rfl, hB⟩
      have hown1 := own_below hown hB
      have hnx1 : Below w.heap.size w w1 := hnx.trans (hB.mono hnx.size)
      have hsz := hnx1.size
      clear hown hB hnx hx
      go_wp2_with (at_builtin; refine wpList_append_lies _ rfl _ _ 23 rfl w.heap.size 39 i0 (.agg #[.int .u16 0, .int .u8 0, .int .u8 0, .int .u32 0]) 4 8 Try.underlying23 hi hz0 hz1 hz2 rfl (by decide) _ k _ rfl (hown1.alloc _) ⟨w1.heap.size, 0, none⟩ 1 1 [.int .u16 c, .int .u8 t, .int .u8 f, .int .u32 kk] rfl rfl ?c1 ?c2 (by decide) ?c3 ?c4 ?c5 (w1.heap.size + 1) ?c6 ?_)
      case c1 => exact news1 w1 _ rfl
      case c2 => intro u hu; simp at hu; rcases hu with rfl | rfl | rfl | rfl <;> rfl
      case c3 => unfold maxLen; omega
      case c4 => omega
      case c5 => simp; omega
      case c6 => simp
      · intro g cap w2 hown2 hgrow hat hlt2
        rw [← HX.out] at hown2
        have HH : Hid (w2.ownsRow w.heap.size 39 4 (.slice (some ⟨g, 0, none⟩) (k + 1) cap) (k + 1) (i4s (M.rdl s (k + 1))) ∧ Below w.heap.size w w2) :=
          ⟨hown2, hnx1.trans (below_own1 hown1 hsz hgrow)⟩
        clear hown1 hown2 hgrow hat hnx1 HX
        go_wp2
        go_roundw
        case rel => exact ⟨k + 1, by omega, by go_num, HH.out.1, HH.out.2⟩
        case measure => simp [intOf]; omega
    · obtain rfl : k = n := by omega
      obtain ⟨g, cap, hv⟩ := own_form hown h0
      rw [hv] at hown ⊢
      have HH : Hid (wr.ownsRow w.heap.size 39 4 (.slice (some ⟨g, 0, none⟩) k cap) k (i4s (M.rdl s k))) := hown
      have j1 : ¬ 8 * (k : Int) < (s.size : Int) := by have := HN.out; omega
      clear hown HW hmk
      go_wp2
      go_ret2
      exact ⟨g, cap, rfl, HH.out, hnx⟩
end Go.Proofs.Yteoamndpphpegaa.B
