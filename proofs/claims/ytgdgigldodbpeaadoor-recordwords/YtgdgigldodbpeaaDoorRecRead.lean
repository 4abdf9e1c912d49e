/-
  The record of 64 bytes, as a walk over the Go text: record.Read.
-/
import Derived.Test.YtgdgigldodbpeaaDoorRecCells
import Derived.Laws.Strings
import Derived.Laws.IdiomStrings
namespace Go.Proofs.YtgdgigldodbpeaaDoor.B
open Go.ChangeShapes Go.WideShapes Go.ChangeAt Go.RowKit
set_option linter.unusedVariables false

theorem or32 (a b : Int) (i : Nat) (ha : 0 ≤ a) (ha' : a < (2 ^ i : Nat)) (hb : 0 ≤ b) (hb' : b * (2 ^ i : Nat) < 4294967296) (hi : a < 4294967296) : bits .or .u32 a (b * (2 ^ i : Nat)) = a + (2 ^ i : Nat) * b := by
  have hn : 0 ≤ b * (2 ^ i : Nat) := Int.mul_nonneg hb (Int.natCast_nonneg _)
  rw [u32_or _ _ ha hi hn hb']
  obtain ⟨m, rfl⟩ := Int.eq_ofNat_of_zero_le hb
  have e1 : ((m : Int) * ((2 ^ i : Nat) : Int)).toNat = m <<< i := by rw [Nat.shiftLeft_eq]; rfl
  have h2 : a.toNat < 2 ^ i := by omega
  rw [e1, Nat.or_comm, ← Nat.shiftLeft_add_eq_or_of_lt h2, Nat.shiftLeft_eq, Int.mul_comm]
  have : ((m * 2 ^ i : Nat) : Int) = (m : Int) * ((2 ^ i : Nat) : Int) := by push_cast; rfl
  omega
theorem index_byte (s : ByteArray) (i : Nat) (h : i < s.size) (W : World) : (Instr.index 9 (.string s) (.int .i64 (i : Int))).run Tryd.prog W = .ok (.int .u8 (M.byt s i)) W := by
  rw [run_index_string W 9 s .i64 (i : Int) Tryd.underlying9]
  have := M.byt_get s i h
  simp [h, this]

set_option maxRecDepth 1000000 in
theorem read_short (s : ByteArray) (w : World) (h : s.size < 64) : Calls Tryd.prog 22 #[.string s] w fun e w' => e = .returned (.tuple #[.agg (enc M.zero), .int .i64 4]) ∧ Below w.heap.size w w' := by
  have d : decide ((s.size : Int) < 64) = true := decide_eq_true (by omega)
  have hR := Rec.new w M.zero rfl
  have hB0 : Below w.heap.size w (w.alloc (.cells (enc M.zero) 24)) := (Below.refl _ w).alloc (Nat.le_refl _) _
  obtain ⟨W2, hst, hR2, _, hsz, hB⟩ := hR.store (m := M.zero) rfl
  have HB : Hid (Below w.heap.size w W2) := hB _ _ (Nat.le_refl _) hB0
  have HL : Hid (Rec W2 w.heap.size M.zero) := hR2
  have hz := zero_lit
  have hzs := zero_size
  clear h hR hB0 hR2 hsz hB
  go_enter Tryd.func22, Tryd.ntmps22
  go_wp2
  refine bodyPost_ret (v := .tuple #[.agg (enc M.zero), .int .i64 4]) ?_ rfl ⟨rfl, HB.out⟩
  exact results_rec Tryd.results22 _ rfl HL.out
set_option maxRecDepth 1000000 in
theorem read_long (s : ByteArray) (w : World) (h : 64 < s.size) : Calls Tryd.prog 22 #[.string s] w fun e w' => e = .returned (.tuple #[.agg (enc M.zero), .int .i64 5]) ∧ Below w.heap.size w w' := by
  have d : decide ((s.size : Int) < 64) = false := decide_eq_false (by omega)
  have d2 : decide (64 < (s.size : Int)) = true := decide_eq_true (by omega)
  have hR := Rec.new w M.zero rfl
  have hB0 : Below w.heap.size w (w.alloc (.cells (enc M.zero) 24)) := (Below.refl _ w).alloc (Nat.le_refl _) _
  obtain ⟨W2, hst, hR2, _, hsz, hB⟩ := hR.store (m := M.zero) rfl
  have HB : Hid (Below w.heap.size w W2) := hB _ _ (Nat.le_refl _) hB0
  have HL : Hid (Rec W2 w.heap.size M.zero) := hR2
  have hz := zero_lit
  have hzs := zero_size
  clear h hR hB0 hR2 hsz hB
  go_enter Tryd.func22, Tryd.ntmps22
  go_wp2
  refine bodyPost_ret (v := .tuple #[.agg (enc M.zero), .int .i64 5]) ?_ rfl ⟨rfl, HB.out⟩
  exact results_rec Tryd.results22 _ rfl HL.out

set_option maxHeartbeats 1600000 in
set_option maxRecDepth 1000000 in
theorem read_any (s : ByteArray) (w : World) (h : s.size = 64) : Calls Tryd.prog 22 #[.string s] w fun e w' => e = .returned (.tuple #[.agg (enc (M.rdr s)), .int .i64 0]) ∧ Below w.heap.size w w' := by
  have HN : Hid (s.size = 64) := h
  have HR : Hid (Rec ((w.alloc (.cells (enc M.zero) 24)).alloc (.cells (enc M.zero) 24)) (w.heap.size + 1) (M.fill s 0) ∧ Rec ((w.alloc (.cells (enc M.zero) 24)).alloc (.cells (enc M.zero) 24)) w.heap.size M.zero ∧ Below w.heap.size w ((w.alloc (.cells (enc M.zero) 24)).alloc (.cells (enc M.zero) 24))) := by
    refine ⟨?_, (Rec.new w M.zero rfl).alloc _, ((Below.refl _ w).alloc (Nat.le_refl _) _).alloc (by simp) _⟩
    rw [M.fill_zero]
    have := Rec.new (w.alloc (.cells (enc M.zero) 24)) M.zero rfl
    simpa using this
  have hz := zero_lit
  have hzs := zero_size
  have hX := lcf_eq
  go_enter Tryd.func22, Tryd.ntmps22
  go_wp2
  clear hz hzs h
  go_loopw [15] (fun i wr => ∃ k : Nat, k ≤ 16 ∧ i = .int .i64 k ∧ Rec wr (w.heap.size + 1) (M.fill s k) ∧ Rec wr w.heap.size M.zero ∧ Below w.heap.size w wr)
    (fun i _ => 16 - (intOf i).toNat)
  case atStart => exact ⟨0, Nat.zero_le _, rfl, HR.out.1, HR.out.2.1, HR.out.2.2⟩
  case round =>
    obtain ⟨k, hk, rfl, hrec, hres, hnx⟩ := hrel
    by_cases hlt : k < 16
    · have hh := HN.out
      have i1 : (k : Int) < 16 := by omega
      have hsl : ∀ W : World, (Instr.slice 9 (.string s) (some (.int .i64 ((k : Int) * 4))) (some (.int .i64 (((k : Int) + 1) * 4))) none).run Tryd.prog W = .ok (.string (s.extract (4 * k) (4 * k + 4))) W := fun W => by
        have := run_slice_string (P := Tryd.prog) (w := W) 9 s .i64 .i64 ((k : Int) * 4) (((k : Int) + 1) * 4) Tryd.underlying9 (by omega) (by omega) (by omega)
        rw [this, show ((k : Int) * 4).toNat = 4 * k by omega, show (((k : Int) + 1) * 4).toNat = 4 * k + 4 by omega]
      have hes : (s.extract (4 * k) (4 * k + 4)).size = 4 := by rw [ByteArray.size_extract]; omega
      have x0 : ∀ W : World, (Instr.index 9 (.string (s.extract (4 * k) (4 * k + 4))) (.int .i64 0)).run Tryd.prog W = .ok (.int .u8 (M.byt s (4 * k + 0))) W := fun W => by
        rw [← M.byt_extract s (4 * k) 0 4 (by omega)]; exact index_byte (s.extract (4 * k) (4 * k + 4)) 0 (by omega) W
      have x1 : ∀ W : World, (Instr.index 9 (.string (s.extract (4 * k) (4 * k + 4))) (.int .i64 1)).run Tryd.prog W = .ok (.int .u8 (M.byt s (4 * k + 1))) W := fun W => by
        rw [← M.byt_extract s (4 * k) 1 4 (by omega)]; exact index_byte (s.extract (4 * k) (4 * k + 4)) 1 (by omega) W
      have x2 : ∀ W : World, (Instr.index 9 (.string (s.extract (4 * k) (4 * k + 4))) (.int .i64 2)).run Tryd.prog W = .ok (.int .u8 (M.byt s (4 * k + 2))) W := fun W => by
        rw [← M.byt_extract s (4 * k) 2 4 (by omega)]; exact index_byte (s.extract (4 * k) (4 * k + 4)) 2 (by omega) W
      have x3 : ∀ W : World, (Instr.index 9 (.string (s.extract (4 * k) (4 * k + 4))) (.int .i64 3)).run Tryd.prog W = .ok (.int .u8 (M.byt s (4 * k + 3))) W := fun W => by
        rw [← M.byt_extract s (4 * k) 3 4 (by omega)]; exact index_byte (s.extract (4 * k) (4 * k + 4)) 3 (by omega) W
      generalize s.extract (4 * k) (4 * k + 4) = S at *
      have y0 := M.byt_bd s (4 * k + 0); have y1 := M.byt_bd s (4 * k + 1); have y2 := M.byt_bd s (4 * k + 2); have y3 := M.byt_bd s (4 * k + 3)
      have HV : Hid (M.rd s (4 * k) = M.byt s (4 * k + 0) + 256 * M.byt s (4 * k + 1) + 65536 * M.byt s (4 * k + 2) + 16777216 * M.byt s (4 * k + 3)) := rfl
      generalize M.byt s (4 * k + 0) = b0 at *
      generalize M.byt s (4 * k + 1) = b1 at *
      generalize M.byt s (4 * k + 2) = b2 at *
      generalize M.byt s (4 * k + 3) = b3 at *
      have v0 : IntKind.u32.wrap b0 = b0 := by rw [IntKind.wrap_u32]; omega
      have v1 : IntKind.u32.wrap b1 = b1 := by rw [IntKind.wrap_u32]; omega
      have v2 : IntKind.u32.wrap b2 = b2 := by rw [IntKind.wrap_u32]; omega
      have v3 : IntKind.u32.wrap b3 = b3 := by rw [IntKind.wrap_u32]; omega
      have z1 : IntKind.u32.wrap (b1 * 256) = b1 * 256 := by rw [IntKind.wrap_u32]; omega
      have z2 : IntKind.u32.wrap (b2 * 65536) = b2 * 65536 := by rw [IntKind.wrap_u32]; omega
      have z3 : IntKind.u32.wrap (b3 * 16777216) = b3 * 16777216 := by rw [IntKind.wrap_u32]; omega
      have o2 : bits .or .u32 b0 (b1 * 256) = b0 + 256 * b1 := or32 b0 b1 8 (by omega) (by omega) (by omega) (by omega) (by omega)
      have o3 : bits .or .u32 (b0 + 256 * b1) (b2 * 65536) = b0 + 256 * b1 + 65536 * b2 := or32 _ b2 16 (by omega) (by omega) (by omega) (by omega) (by omega)
      have o4 : bits .or .u32 (b0 + 256 * b1 + 65536 * b2) (b3 * 16777216) = b0 + 256 * b1 + 65536 * b2 + 16777216 * b3 := or32 _ b3 24 (by omega) (by omega) (by omega) (by omega) (by omega)
      have hwa : IntKind.i64.wrap ((k : Int) * 4) = (k : Int) * 4 := by rw [IntKind.wrap_i64]; omega
      have hwb : IntKind.i64.wrap ((k : Int) + 1) = (k : Int) + 1 := by rw [IntKind.wrap_i64]; omega
      have hwc : IntKind.i64.wrap (((k : Int) + 1) * 4) = ((k : Int) + 1) * 4 := by rw [IntKind.wrap_i64]; omega
      have hcc := hrec.drew.cell k hlt
      have hff := hrec.drew.frozen k
      obtain ⟨W1, hs1, hq1, hO1, hzz, hB1⟩ := hrec.drew.set k (b0 + 256 * b1 + 65536 * b2 + 16777216 * b3)
      have hf := M.fill_set s k hlt
      rw [HV.out] at hf
      rw [hf] at hq1
      have HH : Hid (Rec W1 (w.heap.size + 1) (M.fill s (k + 1)) ∧ Rec W1 w.heap.size M.zero ∧ Below w.heap.size w W1) := ⟨hq1, hO1 _ _ (by omega) hres.drew, hB1 _ _ (by omega) hnx.drew⟩
      clear hh hes hrec hres hnx y0 y1 y2 y3 hq1 hO1 hzz hB1 hf HV HR
      go_wp2_with fail
      refine wp_region_still_tail 20 (by kernel_rfl) (by kernel_rfl) ?_
      change wpStill _ _ (World.drew wr) (fun a' => wpList _ _ _ _ a' (World.drew wr)) _ _
      simp only [List.take_succ_cons, List.take_zero, List.drop_succ_cons, List.drop_zero]
      repeat still_step
      refine wpStill_nil ?_
      go_wp2
      go_roundw
      case rel => exact ⟨k + 1, by omega, by go_num, HH.out.1, HH.out.2.1, HH.out.2.2⟩
      case measure => simp [intOf]; omega
    · obtain rfl : k = 16 := by omega
      rw [M.fill_all] at hrec
      have hl1 := hrec.load
      obtain ⟨W3, hst, hR3, _, hsz, hB⟩ := hres.store (m := M.rdr s) hrec.2
      have HB : Hid (Below w.heap.size w W3) := hB _ _ (Nat.le_refl _) hnx
      have HL : Hid (Rec W3 w.heap.size (M.rdr s)) := hR3
      have hsz2 : (enc (M.rdr s)).size = 16 := enc_size hrec.2
      clear HR hrec hres hnx hR3 hsz hB HN
      go_wp2
      refine bodyPost_ret (v := .tuple #[.agg (enc (M.rdr s)), .int .i64 0]) ?_ rfl ⟨rfl, HB.out⟩
      exact results_rec Tryd.results22 _ rfl HL.out
end Go.Proofs.YtgdgigldodbpeaaDoor.B
