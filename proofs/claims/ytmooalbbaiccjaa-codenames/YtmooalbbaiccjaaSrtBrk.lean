/-
  How the library stirs a row, as walks over the Go text: some numbers of it change places.
-/
import Derived.Test.YtmooalbbaiccjaaSrtPiv
import Derived.Test.YtmooalbbaiccjaaSrtLen
import Derived.Laws.Closers25b
import Derived.Laws.BitsAllLaws
import Derived.Laws.Bits64b
import Derived.BigRegion
import Derived.Deep.LoopGhost
namespace Go.Proofs.Ytmooalbbaiccjaa.B
open Go.ChangeShapes Go.WideShapes Go.ChangeAt Go.RowKit
open Go.Sort hiding Below
set_option linter.unusedVariables false

/-- A seed that lies in a block of its own. -/
structure Seed (W : World) (p : Nat) (s : Int) : Prop where
  cell : W.cell? ⟨p, 0, none⟩ = some (.int .u64 s)
  frozen : W.frozen? ⟨p, 0, none⟩ = false
  lo : 0 ≤ s
  hi : s ≤ 18446744073709551615

theorem Seed.set {W : World} {p : Nat} {s : Int} (h : Seed W p s) (r : Int) (h0 : 0 ≤ r) (h1 : r ≤ 18446744073709551615) : Seed ((W.setCell ⟨p, 0, none⟩ (.int .u64 r)).drew) p r :=
  ⟨World.cell?_setCell_same' _ _ _ (by rw [h.cell]; rfl), (World.frozen?_setCell _ _ _ _).trans h.frozen, h0, h1⟩

theorem Seed.far {W : World} {p : Nat} {s : Int} (h : Seed W p s) (b i j : Nat) (x y : Value) (hne : p ≠ b) : Seed (((W.setCell ⟨b, i, none⟩ x).setCell ⟨b, j, none⟩ y).drew) p s :=
  ⟨((World.cell?_setCell_far _ _ _ _ (Ne.symm hne)).trans (World.cell?_setCell_far _ _ _ _ (Ne.symm hne))).trans h.cell, ((World.frozen?_setCell _ _ _ _).trans (World.frozen?_setCell _ _ _ _)).trans h.frozen, h.lo, h.hi⟩

set_option maxHeartbeats 4000000 in
theorem next_any {N n₀ b o : Nat} {w : World} (p : Nat) (s : Int) (d : Array Int) (W : World) (h : Rw N n₀ b o w d W) (hp : Seed W p s) (hpb : p ≠ b) (hpn : n₀ ≤ p) :
    Calls Try.prog 45 #[.pointer (some ⟨p, 0, none⟩)] W fun e W' =>
      ∃ r, e = .returned (.int .u64 r) ∧ Rw N n₀ b o w d W' ∧ Seed W' p r := by
  have HH : Hid (Rw N n₀ b o w d W ∧ Seed W p s) := ⟨h, hp⟩
  have hp1 := hp.cell
  have hp2 := hp.frozen
  clear h hp
  go_enter Try.func45, Try.ntmps45
  go_wp2_with fail
  go_region
  obtain ⟨r1, hr1⟩ : ∃ r1, bits BinOp.xor IntKind.u64 s (IntKind.u64.wrap (s * 8192)) = r1 := ⟨_, rfl⟩
  rw [hr1]
  have H1 : Hid (Rw N n₀ b o w d (W.setCell ⟨p, 0, none⟩ (.int .u64 r1)).drew ∧ Seed (W.setCell ⟨p, 0, none⟩ (.int .u64 r1)).drew p r1) :=
    ⟨(HH.out.1.other p 0 _ hpn hpb).drewN 1, HH.out.2.set r1 (by rw [← hr1]; exact bits_lo_u64 _ _ _) (by rw [← hr1]; exact bits_hi_u64 _ _ _)⟩
  have k1 := H1.out.2.cell
  have k2 := H1.out.2.frozen
  clear hr1 hp1 hp2 HH
  generalize (W.setCell ⟨p, 0, none⟩ (.int .u64 r1)).drew = W1 at H1 k1 k2 ⊢
  go_wp2_with fail
  go_region
  obtain ⟨r2, hr2⟩ : ∃ r2, bits BinOp.xor IntKind.u64 r1 (r1 / 128) = r2 := ⟨_, rfl⟩
  rw [hr2]
  have H2 : Hid (Rw N n₀ b o w d (W1.setCell ⟨p, 0, none⟩ (.int .u64 r2)).drew ∧ Seed (W1.setCell ⟨p, 0, none⟩ (.int .u64 r2)).drew p r2) :=
    ⟨(H1.out.1.other p 0 _ hpn hpb).drewN 1, H1.out.2.set r2 (by rw [← hr2]; exact bits_lo_u64 _ _ _) (by rw [← hr2]; exact bits_hi_u64 _ _ _)⟩
  have m1 := H2.out.2.cell
  have m2 := H2.out.2.frozen
  clear hr2 k1 k2 H1
  generalize (W1.setCell ⟨p, 0, none⟩ (.int .u64 r2)).drew = W2 at H2 m1 m2 ⊢
  go_wp2_with fail
  go_region
  obtain ⟨r3, hr3⟩ : ∃ r3, bits BinOp.xor IntKind.u64 r2 (IntKind.u64.wrap (r2 * 131072)) = r3 := ⟨_, rfl⟩
  rw [hr3]
  have H3 : Hid (Rw N n₀ b o w d (W2.setCell ⟨p, 0, none⟩ (.int .u64 r3)).drew ∧ Seed (W2.setCell ⟨p, 0, none⟩ (.int .u64 r3)).drew p r3) :=
    ⟨(H2.out.1.other p 0 _ hpn hpb).drewN 1, H2.out.2.set r3 (by rw [← hr3]; exact bits_lo_u64 _ _ _) (by rw [← hr3]; exact bits_hi_u64 _ _ _)⟩
  have q1 := H3.out.2.cell
  have q2 := H3.out.2.frozen
  clear hr3 m1 m2 H2
  generalize (W2.setCell ⟨p, 0, none⟩ (.int .u64 r3)).drew = W3 at H3 q1 q2 ⊢
  go_wp2
  go_ret
  exact ⟨_, rfl, H3.out⟩

theorem and_few (r : Int) (m : Nat) (hm : m = 16 ∨ m = 32 ∨ m = 64) (h0 : 0 ≤ r) (h1 : r ≤ 18446744073709551615) : ∃ q : Nat, q < m ∧ bits BinOp.and IntKind.u64 r ((m : Int) - 1) = (q : Int) := by
  obtain ⟨n, rfl⟩ : ∃ n : Nat, r = (n : Int) := ⟨r.toNat, by omega⟩
  have e : ((m : Int) - 1) = ((m - 1 : Nat) : Int) := by omega
  rw [e, bits_and_u64_nat n (m - 1) (by omega) (by omega)]
  refine ⟨n &&& (m - 1), ?_, rfl⟩
  exact Nat.lt_of_le_of_lt Nat.and_le_right (by omega)

set_option maxHeartbeats 4000000 in
theorem brk_any {N n₀ b o : Nat} {w : World} (cap a c : Nat) (d : Array Int) (W : World) (h : Rw N n₀ b o w d W) (h8 : 8 ≤ c - a) (hc : c ≤ N) (hN : N < 50) :
    Calls Try.prog 34 #[.slice (some ⟨b, o, none⟩) N cap, .int .i64 a, .int .i64 c] W fun e W' =>
      e = .returned (.tuple #[]) ∧ ∃ d', PermIn a c d d' ∧ Rw N n₀ b o w d' W' := by
  obtain ⟨l, hl1, hl2, hl8⟩ : ∃ l : Nat, a + l ≤ c ∧ c ≤ a + l ∧ 8 ≤ l := ⟨c - a, by omega, by omega, h8⟩
  clear h8
  have el : (c : Int) - (a : Int) = (l : Int) := by omega
  have hw : IntKind.u64.wrap (l : Int) = l := by
    show (l : Int) % 18446744073709551616 = l
    omega
  have hblt := h.lt
  have hfr := h.fresh
  have HK : Hid (Rw N n₀ b o w d W) := h
  clear h
  go_enter Try.func34, Try.ntmps34
  go_wp2_with fail
  obtain ⟨m, hm, hm1, hm2, hpow⟩ := pow_any l hl8 (by omega) (W.alloc (Obj.cells #[Value.int IntKind.u64 (l : Int)] 59))
  refine hpow.mono ?_
  clear hpow
  rintro e W0 ⟨rfl, rfl⟩
  have HS : Hid (Rw N n₀ b o w d (W.alloc (Obj.cells #[Value.int IntKind.u64 (l : Int)] 59)) ∧ Seed (W.alloc (Obj.cells #[Value.int IntKind.u64 (l : Int)] 59)) W.heap.size (l : Int)) :=
    ⟨HK.out.alloc _, ⟨(cell_new W _ _).1, (cell_new W _ _).2, by omega, by omega⟩⟩
  clear HK
  obtain ⟨p, hp⟩ : ∃ p, W.heap.size = p := ⟨_, rfl⟩
  have hpb : p ≠ b := by omega
  have hpn : n₀ ≤ p := by omega
  rw [hp] at HS ⊢
  clear hp hblt hfr
  generalize W.alloc (Obj.cells #[Value.int IntKind.u64 (l : Int)] 59) = W1 at HS ⊢
  go_wp2
  go_loopg [9] 3 (fun k vi wr => k ≤ 3 ∧ vi = .int .i64 ((a + l / 4 * 2 + 2 - k : Nat) : Int) ∧ ∃ (dk : Array Int) (s : Int), PermIn a c d dk ∧ Rw N n₀ b o w dk wr ∧ Seed wr p s)
  case atStart => exact ⟨Nat.le_refl _, by congr 1; omega, d, _, permIn_refl _ _ _, HS.out.1, HS.out.2⟩
  case round =>
    obtain ⟨hk3, rfl, dk, s, hpm, hr, hs⟩ := hrel
    have HH : Hid (PermIn a c d dk ∧ Rw N n₀ b o w dk wr ∧ Seed wr p s) := ⟨hpm, hr, hs⟩
    clear hpm hr hs HS
    cases gk with
    | zero =>
      go_wp2
      go_end0
      exact ⟨rfl, dk, HH.out.1, HH.out.2.1⟩
    | succ k =>
      obtain ⟨i, hi1, hi2, hi3⟩ : ∃ i : Nat, a + l / 4 * 2 + 2 - (k + 1) = i ∧ i < c ∧ a ≤ i := ⟨_, rfl, by omega, by omega⟩
      rw [hi1]
      have hnx := next_any p s dk wr HH.out.2.1 HH.out.2.2 hpb hpn
      have HI : Hid (a + l / 4 * 2 + 2 - (k + 1) = i) := hi1
      have hi4 : i ≤ a + l / 4 * 2 + 1 := by omega
      clear hi1
      go_wp2_with fail
      refine hnx.mono ?_
      clear hnx
      rintro e W2 ⟨r, rfl, hr, hs⟩
      obtain ⟨q, hq, hqe⟩ := and_few r m hm hs.lo hs.hi
      have hwm : IntKind.u64.wrap ((m : Int) - 1) = (m : Int) - 1 := by
        show ((m : Int) - 1) % 18446744073709551616 = _
        omega
      have HR : Hid (PermIn a c d dk ∧ Rw N n₀ b o w dk W2 ∧ Seed W2 p r) := ⟨HH.out.1, hr, hs⟩
      obtain ⟨G, HG, hcw, hfw⟩ := hr.opn
      clear hr hs HH
      by_cases hql : l ≤ q
      · have hqi : (l : Int) ≤ (q : Int) := by omega
        obtain ⟨z, hz⟩ : ∃ z : Nat, q = l + z := ⟨q - l, by omega⟩
        subst hz
        by_cases hne : i = a + z
        · subst hne
          go_wp2
          go_region
          go_wp2
          go_roundg k
          case measure => omega
          case rel =>
            refine ⟨by omega, by first | (congr 1; have := HI.out; omega) | (have := HI.out; congr 1; omega), swp dk (a + z) (a + z), r, permIn_trans _ _ _ _ _ HR.out.1 (swp_permIn _ a c (a + z) (a + z) (by omega) (by omega) (by omega) (by omega) (by rw [HR.out.2.1.size]; exact hc)), ?_, (HR.out.2.2.far b _ _ _ _ hpb)⟩
            have := HR.out.2.1.swp 1 (a + z) (a + z) (by omega) (by omega)
            simp only [← HG.out] at this
            exact this
        · skip
          go_wp2
          go_region
          go_wp2
          go_roundg k
          case measure => omega
          case rel =>
            refine ⟨by omega, by first | (congr 1; have := HI.out; omega) | (have := HI.out; congr 1; omega), swp dk (i) (a + z), r, permIn_trans _ _ _ _ _ HR.out.1 (swp_permIn _ a c (i) (a + z) (by omega) (by omega) (by omega) (by omega) (by rw [HR.out.2.1.size]; exact hc)), ?_, (HR.out.2.2.far b _ _ _ _ hpb)⟩
            have := HR.out.2.1.swp 1 (i) (a + z) (by omega) (by omega)
            simp only [← HG.out] at this
            exact this
      · have hqi : decide ((l : Int) ≤ (q : Int)) = false := decide_eq_false (by omega)
        obtain ⟨z, hz⟩ : ∃ z : Nat, q = z := ⟨q, rfl⟩
        subst hz
        by_cases hne : i = a + q
        · subst hne
          go_wp2
          go_region
          go_wp2
          go_roundg k
          case measure => omega
          case rel =>
            refine ⟨by omega, by first | (congr 1; have := HI.out; omega) | (have := HI.out; congr 1; omega), swp dk (a + q) (a + q), r, permIn_trans _ _ _ _ _ HR.out.1 (swp_permIn _ a c (a + q) (a + q) (by omega) (by omega) (by omega) (by omega) (by rw [HR.out.2.1.size]; exact hc)), ?_, (HR.out.2.2.far b _ _ _ _ hpb)⟩
            have := HR.out.2.1.swp 1 (a + q) (a + q) (by omega) (by omega)
            simp only [← HG.out] at this
            exact this
        · skip
          go_wp2
          go_region
          go_wp2
          go_roundg k
          case measure => omega
          case rel =>
            refine ⟨by omega, by first | (congr 1; have := HI.out; omega) | (have := HI.out; congr 1; omega), swp dk (i) (a + q), r, permIn_trans _ _ _ _ _ HR.out.1 (swp_permIn _ a c (i) (a + q) (by omega) (by omega) (by omega) (by omega) (by rw [HR.out.2.1.size]; exact hc)), ?_, (HR.out.2.2.far b _ _ _ _ hpb)⟩
            have := HR.out.2.1.swp 1 (i) (a + q) (by omega) (by omega)
            simp only [← HG.out] at this
            exact this
end Go.Proofs.Ytmooalbbaiccjaa.B
