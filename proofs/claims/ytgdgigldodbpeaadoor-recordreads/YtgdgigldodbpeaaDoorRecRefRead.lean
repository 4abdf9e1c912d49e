/-
  The record of 64 bytes by the reference, as a walk over the Go text.
-/
import Derived.Test.YtgdgigldodbpeaaDoorRecRead
namespace Go.Proofs.YtgdgigldodbpeaaDoor.B
open Go.ChangeShapes Go.WideShapes Go.ChangeAt Go.RowKit
set_option linter.unusedVariables false

/-- the word of the last m of four bytes -/
def hor (s : ByteArray) (p : Nat) : Nat → Int
  | 0 => 0
  | m + 1 => 256 * hor s p m + M.byt s (p + (3 - m))
theorem hor_all (s : ByteArray) (p : Nat) : hor s p 4 = M.rd s p := by
  show 256 * (256 * (256 * (256 * 0 + M.byt s (p + 3)) + M.byt s (p + 2)) + M.byt s (p + 1)) + M.byt s (p + 0) = M.byt s p + 256 * M.byt s (p + 1) + 65536 * M.byt s (p + 2) + 16777216 * M.byt s (p + 3)
  have e : M.byt s (p + 0) = M.byt s p := rfl
  omega
theorem hor_bd (s : ByteArray) (p : Nat) : ∀ m, m < 4 → 0 ≤ hor s p m ∧ hor s p m < 16777216 := by
  have h1 := M.byt_bd s (p + 3); have h2 := M.byt_bd s (p + 2); have h3 := M.byt_bd s (p + 1)
  intro m hm
  match m, hm with
  | 0, _ => exact ⟨Int.le_refl _, by show (0 : Int) < _; omega⟩
  | 1, _ => show 0 ≤ 256 * 0 + M.byt s (p + 3) ∧ 256 * 0 + M.byt s (p + 3) < 16777216; omega
  | 2, _ => show 0 ≤ 256 * (256 * 0 + M.byt s (p + 3)) + M.byt s (p + 2) ∧ 256 * (256 * 0 + M.byt s (p + 3)) + M.byt s (p + 2) < 16777216; omega
  | 3, _ => show 0 ≤ 256 * (256 * (256 * 0 + M.byt s (p + 3)) + M.byt s (p + 2)) + M.byt s (p + 1) ∧ 256 * (256 * (256 * 0 + M.byt s (p + 3)) + M.byt s (p + 2)) + M.byt s (p + 1) < 16777216; omega

theorem two_new (w : World) : ∃ W, (Sem.run Tryd.prog (storeCells ⟨w.heap.size + 1, 0, none⟩ (enc M.zero).toList 0) ((w.alloc (.cells (enc M.zero) 24)).alloc (.cells (enc M.zero) 24))) = .ok () W ∧
    Rec W (w.heap.size + 1) M.zero ∧ Rec W w.heap.size M.zero ∧ Below w.heap.size w W := by
  have hR : Rec ((w.alloc (.cells (enc M.zero) 24)).alloc (.cells (enc M.zero) 24)) (w.heap.size + 1) M.zero := by
    have := Rec.new (w.alloc (.cells (enc M.zero) 24)) M.zero rfl
    simpa using this
  obtain ⟨W, hst, hR1, hO, _, hB⟩ := hR.store (m := M.zero) rfl
  exact ⟨W, hst, hR1, hO _ _ (by omega) ((Rec.new w M.zero rfl).alloc _), hB _ _ (by omega) (((Below.refl _ w).alloc (Nat.le_refl _) _).alloc (by simp) _)⟩

set_option maxRecDepth 1000000 in
theorem rread_short (s : ByteArray) (w : World) (h : s.size < 64) : Calls Tryd.prog 23 #[.string s] w fun e w' => e = .returned (.tuple #[.agg (enc M.zero), .int .i64 4]) ∧ Below w.heap.size w w' := by
  have d : decide ((s.size : Int) < 64) = true := decide_eq_true (by omega)
  obtain ⟨W, hs0, hr, hr2, hB0⟩ := two_new w
  have hl := hr.load
  obtain ⟨W2, hst, hR2, _, hsz, hB⟩ := hr2.store (m := M.zero) rfl
  have HB : Hid (Below w.heap.size w W2) := hB _ _ (Nat.le_refl _) hB0
  have HL : Hid (Rec W2 w.heap.size M.zero) := hR2
  have hz := zero_lit
  have hzs := zero_size
  have hX := lcf_eq
  clear h hr hr2 hB0 hR2 hsz hB
  go_enter Tryd.func23, Tryd.ntmps23
  go_wp2
  refine bodyPost_ret (v := .tuple #[.agg (enc M.zero), .int .i64 4]) ?_ rfl ⟨rfl, HB.out⟩
  exact results_rec Tryd.results23 _ rfl HL.out
set_option maxRecDepth 1000000 in
theorem rread_long (s : ByteArray) (w : World) (h : 64 < s.size) : Calls Tryd.prog 23 #[.string s] w fun e w' => e = .returned (.tuple #[.agg (enc M.zero), .int .i64 5]) ∧ Below w.heap.size w w' := by
  have d : decide ((s.size : Int) < 64) = false := decide_eq_false (by omega)
  have d2 : decide (64 < (s.size : Int)) = true := decide_eq_true (by omega)
  obtain ⟨W, hs0, hr, hr2, hB0⟩ := two_new w
  have hl := hr.load
  obtain ⟨W2, hst, hR2, _, hsz, hB⟩ := hr2.store (m := M.zero) rfl
  have HB : Hid (Below w.heap.size w W2) := hB _ _ (Nat.le_refl _) hB0
  have HL : Hid (Rec W2 w.heap.size M.zero) := hR2
  have hz := zero_lit
  have hzs := zero_size
  have hX := lcf_eq
  clear h hr hr2 hB0 hR2 hsz hB
  go_enter Tryd.func23, Tryd.ntmps23
  go_wp2
  refine bodyPost_ret (v := .tuple #[.agg (enc M.zero), .int .i64 5]) ?_ rfl ⟨rfl, HB.out⟩
  exact results_rec Tryd.results23 _ rfl HL.out

set_option maxHeartbeats 1600000 in
set_option maxRecDepth 1000000 in
theorem rread_any (s : ByteArray) (w : World) (h : s.size = 64) : Calls Tryd.prog 23 #[.string s] w fun e w' => e = .returned (.tuple #[.agg (enc (M.rdr s)), .int .i64 0]) ∧ Below w.heap.size w w' := by
  have HN : Hid (s.size = 64) := h
  obtain ⟨W, hs0, hr, hr2, hB0⟩ := two_new w
  have HR : Hid (Rec W (w.heap.size + 1) (M.fill s 0) ∧ Rec W w.heap.size M.zero ∧ Below w.heap.size w W) := by
    rw [M.fill_zero]
    exact ⟨hr, hr2, hB0⟩
  have hz := zero_lit
  have hzs := zero_size
  have hX := lcf_eq
  clear hr hr2 hB0
  go_enter Tryd.func23, Tryd.ntmps23
  go_wp2
  clear hz hzs h hs0
  go_loopw [5] (fun i wr => ∃ k : Nat, k ≤ 16 ∧ i = .int .i64 k ∧ Rec wr (w.heap.size + 1) (M.fill s k) ∧ Rec wr w.heap.size M.zero ∧ Below w.heap.size w wr)
    (fun i _ => 16 - (intOf i).toNat)
  case atStart => exact ⟨0, Nat.zero_le _, rfl, HR.out.1, HR.out.2.1, HR.out.2.2⟩
  case round =>
    obtain ⟨k, hk, rfl, hrec, hres, hnx⟩ := hrel
    by_cases hlt : k < 16
    · have i1 : (k : Int) < 16 := by omega
      have HK : Hid (k < 16 ∧ Rec wr (w.heap.size + 1) (M.fill s k) ∧ Rec wr w.heap.size M.zero ∧ Below w.heap.size w wr) := ⟨hlt, hrec, hres, hnx⟩
      clear HR hrec hres hnx hlt hk
      go_wp2
      go_loopw [6, 7] (fun n i wq => ∃ m : Nat, m ≤ 4 ∧ i = .int .i64 (3 - (m : Int)) ∧ n = .int .u32 (hor s (4 * k) m) ∧ wq = wr)
        (fun _ i _ => (intOf i + 1).toNat)
      case atStart => exact ⟨0, Nat.zero_le _, rfl, rfl, rfl⟩
      case round =>
        obtain ⟨m, hm, rfl, rfl, rfl⟩ := hrel
        by_cases hm4 : m < 4
        · have hk := HK.out.1
          have hs := HN.out
          have hx : ∀ W : World, (Instr.index 9 (.string s) (.int .i64 (4 * (k : Int) + (3 - (m : Int))))).run Tryd.prog W = .ok (.int .u8 (M.byt s (4 * k + (3 - m)))) W := fun W => by
            have := index_byte s (4 * k + (3 - m)) (by omega) W
            rw [show ((4 * k + (3 - m) : Nat) : Int) = 4 * (k : Int) + (3 - (m : Int)) by omega] at this
            exact this
          have HV : Hid (hor s (4 * k) (m + 1) = 256 * hor s (4 * k) m + M.byt s (4 * k + (3 - m))) := rfl
          have b1 := hor_bd s (4 * k) m hm4
          have b2 := M.byt_bd s (4 * k + (3 - m))
          generalize hor s (4 * k) m = x at *
          generalize M.byt s (4 * k + (3 - m)) = y at *
          have w1 : IntKind.u32.wrap (256 * x) = 256 * x := by rw [IntKind.wrap_u32]; omega
          have w2 : IntKind.u32.wrap (256 * x + y) = 256 * x + y := by rw [IntKind.wrap_u32]; omega
          have w3 : IntKind.u32.wrap y = y := by rw [IntKind.wrap_u32]; omega
          have w4 : IntKind.i64.wrap (4 * (k : Int)) = 4 * (k : Int) := by rw [IntKind.wrap_i64]; omega
          have w5 : IntKind.i64.wrap (4 * (k : Int) + (3 - (m : Int))) = 4 * (k : Int) + (3 - (m : Int)) := by rw [IntKind.wrap_i64]; omega
          have w6 : IntKind.i64.wrap (3 - (m : Int) - 1) = 3 - (m : Int) - 1 := by rw [IntKind.wrap_i64]; omega
          have d1 : decide (0 ≤ 3 - (m : Int)) = true := decide_eq_true (by omega)
          have d2 : decide ((m : Int) ≤ 3) = true := decide_eq_true (by omega)
          have HM : Hid (m < 4) := hm4
          clear hk hs b1 b2 hm4 hm
          go_wp2
          go_roundw
          case rel => exact ⟨m + 1, HM.out, by go_num, by rw [HV.out], by first | rfl | trivial⟩
          case measure => have := HM.out; simp [intOf]; omega
        · obtain rfl : m = 4 := by omega
          have d1 : decide (0 ≤ 3 - ((4 : Nat) : Int)) = false := by decide
          obtain ⟨hk, hrec, hres, hnx⟩ := HK.out
          rw [hor_all]
          have hcc := hrec.cell k hk
          have hff := hrec.frozen k
          obtain ⟨W1, hs1, hq1, hO1, hzz, hB1⟩ := hrec.set k (M.rd s (4 * k))
          rw [M.fill_set s k hk] at hq1
          have HH : Hid (Rec W1 (w.heap.size + 1) (M.fill s (k + 1)) ∧ Rec W1 w.heap.size M.zero ∧ Below w.heap.size w W1) := ⟨hq1, hO1 _ _ (by omega) hres, hB1 _ _ (by omega) hnx⟩
          clear hrec hres hnx hq1 hO1 hzz hB1 HK
          go_wp2
          go_roundw
          case rel => exact ⟨k + 1, by omega, by go_num, HH.out.1, HH.out.2.1, HH.out.2.2⟩
          case measure => simp [intOf]; omega
    · obtain rfl : k = 16 := by omega
      rw [M.fill_all] at hrec
      have hl1 := hrec.load
      obtain ⟨W3, hst, hR3, _, hsz, hB⟩ := hres.store (m := M.rdr s) hrec.2
      have HB : Hid (Below w.heap.size w W3) := hB _ _ (Nat.le_refl _) hnx
      have HL : Hid (Rec W3 w.heap.size (M.rdr s)) := hR3
      have hsz2 : (enc (M.rdr s)).size = 16 := enc_size hrec.2
      clear HR hrec hres hnx hR3 hsz hB HN
      go_wp2
      refine bodyPost_ret (v := .tuple #[.agg (enc (M.rdr s)), .int .i64 0]) ?_ rfl ⟨rfl, HB.out⟩
      exact results_rec Tryd.results23 _ rfl HL.out
end Go.Proofs.YtgdgigldodbpeaaDoor.B
