/-
  Two words, bit by bit, by what a sum of two bits comes to, as a walk over the Go text of the reference.
-/
import Derived.Test.YtlbjfggcflfmaaaRefValue
namespace Go.Proofs.Ytlbjfggcflfmaaa.B
open Go.ChangeShapes Go.WideShapes Go.ChangeAt Go.RowKit

/-- The cells of the result behind k rounds. -/
def cellsAt (z : Nat → Nat) (k : Nat) : List Value := (List.range 32).map fun i => Value.int .i64 ((if i < k then z i else 0 : Nat) : Int)
theorem cellsAt_len (z : Nat → Nat) (k : Nat) : (cellsAt z k).length = 32 := by simp [cellsAt]
theorem cellsAt_get (z : Nat → Nat) (k j : Nat) (h : j < 32) : (cellsAt z k)[j]? = some (Value.int .i64 ((if j < k then z j else 0 : Nat) : Int)) := by simp [cellsAt, h]
theorem cellsAt_zero (z : Nat → Nat) : (madeCells #[Value.int .i64 0] 32).toList = cellsAt z 0 := by
  apply List.ext_getElem?
  intro i
  by_cases h : i < 32
  · rw [cellsAt_get z 0 i h]; simp [madeCells, h, Nat.mod_one]
  · rw [List.getElem?_eq_none (l := cellsAt z 0) (by rw [cellsAt_len]; omega), List.getElem?_eq_none (by simp [madeCells]; omega)]
theorem cellsAt_set (z : Nat → Nat) (k : Nat) (hk : k < 32) : (cellsAt z k).set k (.int .i64 ((z k : Nat) : Int)) = cellsAt z (k + 1) := by
  apply List.ext_getElem?
  intro i
  by_cases h : i < 32
  · rw [cellsAt_get z (k + 1) i h, List.getElem?_set]
    by_cases e : k = i
    · subst e; simp [cellsAt_len, hk]
    · rw [if_neg e, cellsAt_get z k i h]
      by_cases hik : i < k
      · rw [if_pos hik, if_pos (by omega)]
      · rw [if_neg hik, if_neg (by omega)]
  · rw [List.getElem?_eq_none (by rw [List.length_set, cellsAt_len]; omega), List.getElem?_eq_none (by rw [cellsAt_len]; omega)]

theorem below_drawn {B : Nat} {a w : World} (h : Below B a w) (n : Nat) : Below B a (w.drewN n) := ⟨h.os, h.tape, h.output, h.size, h.block⟩

set_option maxHeartbeats 3200000 in
set_option maxRecDepth 1000000 in
theorem both_any (a b p0 p1 p2 : Nat) (h0 : p0 ≤ 1) (h1 : p1 ≤ 1) (h2 : p2 ≤ 1) (ha : a < 4294967296) (hb : b < 4294967296) (w : World) :
    Calls Try.prog 24 #[.int .u32 (a : Int), .int .u32 (b : Int), .int .i64 (p0 : Int), .int .i64 (p1 : Int), .int .i64 (p2 : Int)] w fun e w' => e = .returned (.int .u32 ((M.comb a b p0 p1 p2 : Nat) : Int)) ∧ Below w.heap.size w w' := by
  obtain ⟨i0, hi, hz0, hz1, hz2⟩ := info_parts info3
  obtain ⟨z, hz⟩ : ∃ z : Nat → Nat, z = fun i => M.pick p0 p1 p2 (M.bt a i + M.bt b i) := ⟨_, rfl⟩
  have hcomb : M.comb a b p0 p1 p2 = M.hor z 32 := by rw [hz]; rfl
  rw [hcomb]
  have hzle : ∀ i, z i ≤ 1 := fun i => by rw [hz]; exact M.pick_le _ _ _ _ h0 h1 h2
  have HZ : Hid (∀ i, z i = M.pick p0 p1 p2 (M.bt a i + M.bt b i)) := fun i => by rw [hz]
  have HL : Hid (∀ i, z i ≤ 1) := hzle
  clear hz hcomb hzle
  go_enter Try.func24, Try.ntmps24
  go_wp2_with fail
  refine (bits_any a _).mono ?_
  rintro e wa ⟨ga, ca, rfl, ga1, ga2, hca, hba⟩
  go_wp2_with fail
  refine (bits_any b _).mono ?_
  rintro e wb ⟨gb, cb, rfl, gb1, gb2, hcb, hbb⟩
  go_wp2_with (at_make; refine wpList_make_full _ rfl _ _ 39 rfl wb.heap.size 3 i0 (.int .i64 0) 1 Try.underlying39 hi hz0 hz1 .i64 .i64 32 32 32 rfl rfl rfl rfl ?c1 ?c2 (Nat.le_refl _) ?_)
  case c1 => rw [hz2]; omega
  case c2 => unfold maxLen; omega
  intro wm hown hgrow
  rw [cellsAt_zero z] at hown
  have hbm : Below wb.heap.size wb wm := (Below.refl _ _).grown hgrow (Nat.le_refl _) (by intro k hk; cases hk)
  have hxm : ∀ j : Nat, j < 64 → wm.cell? ⟨ga, j, none⟩ = some (.int .i64 ((M.bt a j : Nat) : Int)) := fun j hj => by
    rw [hbm.cell (p := ⟨ga, j, none⟩) (by have := hbb.size; simp; omega), hbb.cell (p := ⟨ga, j, none⟩) (by simpa using ga2)]; exact hca j hj
  have hym : ∀ j : Nat, j < 64 → wm.cell? ⟨gb, j, none⟩ = some (.int .i64 ((M.bt b j : Nat) : Int)) := fun j hj => by
    rw [hbm.cell (p := ⟨gb, j, none⟩) (by simpa using gb2)]; exact hcb j hj
  have hbw : Below w.heap.size w wm := (hba.trans (hbb.mono hba.size)).trans (hbm.mono (Nat.le_trans hba.size hbb.size))
  have hgA : ga < wb.heap.size := by have := hbb.size; omega
  have hwb : w.heap.size ≤ wb.heap.size := Nat.le_trans hba.size hbb.size
  clear hgrow hca hcb hba hbb h0 h1 h2
  go_wp2
  go_loopw [14] (fun i wr => ∃ k : Nat, k ≤ 32 ∧ i = .int .i64 k ∧ wr.ownsRow wb.heap.size 3 1 (.slice (some ⟨wb.heap.size, 0, none⟩) 32 32) 32 (cellsAt z k) ∧ Below wb.heap.size wm wr)
    (fun i _ => 32 - (intOf i).toNat)
  case atStart => exact ⟨0, Nat.zero_le _, rfl, hown, Below.refl _ _⟩
  case round =>
    obtain ⟨k, hk, rfl, hownk, hnx⟩ := hrel
    clear hown
    by_cases hlt : k < 32
    · have hx := (hnx.cell (p := ⟨ga, k, none⟩) (by simpa using hgA)).trans (hxm k (by omega))
      have hy := (hnx.cell (p := ⟨gb, k, none⟩) (by simpa using gb2)).trans (hym k (by omega))
      have ho := (hownk.cellAt k (by omega)).trans (cellsAt_get z k k hlt)
      have hf := hownk.frozenAt k
      have hzk := HZ.out k
      have st := (hownk.stored k (.int .i64 ((z k : Nat) : Int)))
      rw [cellsAt_set z k hlt] at st
      obtain ⟨st1, st2⟩ := st
      rw [if_neg (by omega)] at ho
      have la := M.bt_le a k
      have lb := M.bt_le b k
      obtain ⟨x, ex⟩ : ∃ x, M.bt a k = x := ⟨_, rfl⟩
      obtain ⟨y, ey⟩ : ∃ y, M.bt b k = y := ⟨_, rfl⟩
      rw [ex] at hx la hzk
      rw [ey] at hy lb hzk
      clear hownk hxm hym st2 ex ey HZ
      obtain ⟨v, hv⟩ : ∃ v, z k = v := ⟨_, rfl⟩
      rw [hv] at hzk st1
      clear hv
      have c : ((x = 0 ∧ y = 0) ∨ (x = 0 ∧ y = 1)) ∨ ((x = 1 ∧ y = 0) ∨ (x = 1 ∧ y = 1)) := by omega
      rcases c with (⟨rfl, rfl⟩ | ⟨rfl, rfl⟩) | (⟨rfl, rfl⟩ | ⟨rfl, rfl⟩)
      all_goals
        simp [M.pick] at hzk
        subst hzk
        go_wp2
        go_quiet (fail)
        go_wp2
        go_roundw
        case rel => exact ⟨k + 1, by omega, by go_num, st1, (below_drawn hnx _).setCell (Nat.le_refl _) _⟩
        case measure => simp [intOf]; omega
    · obtain rfl : k = 32 := by omega
      have hv : ∀ j : Nat, j < 32 → wr.cell? ⟨wb.heap.size, j, none⟩ = some (.int .i64 ((z j : Nat) : Int)) := fun j hj => by
        rw [hownk.cellAt j (by omega), cellsAt_get z 32 j hj, if_pos hj]
      clear hownk hxm hym HZ
      go_wp2_with (go_at_call 27; refine (value_any _ _ z HL.out _ hv).mono ?_; rintro e w' ⟨rfl, rfl⟩)
      go_ret
      exact ⟨rfl, hbw.trans (hnx.mono hwb)⟩
end Go.Proofs.Ytlbjfggcflfmaaa.B
