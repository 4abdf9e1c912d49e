/-
  Eight bytes read as an instruction, as walks over the Go text.
-/
import Derived.Test.YteoamndpphpegaaInsRef
import Derived.StillTailTactics
namespace Go.Proofs.Yteoamndpphpegaa.B
open Go.ChangeShapes Go.WideShapes Go.ChangeAt Go.RowKit
set_option linter.unusedVariables false

theorem or16 (a b : Int) (ha : 0 ≤ a) (ha' : a < 256) (hb : 0 ≤ b) (hb' : b < 256) : bits .or .u16 a (b * 256) = a + 256 * b := by
  rw [u16_or _ _ (by omega) (by omega) (by omega) (by omega)]
  have e1 : (b * 256).toNat = b.toNat <<< 8 := by rw [Nat.shiftLeft_eq]; omega
  rw [e1, Nat.or_comm, ← Nat.shiftLeft_add_eq_or_of_lt (by omega : a.toNat < 2 ^ 8), Nat.shiftLeft_eq]; omega
theorem or32 (a b : Int) (i : Nat) (ha : 0 ≤ a) (ha' : a < (2 ^ i : Nat)) (hb : 0 ≤ b) (hb' : b * (2 ^ i : Nat) < 4294967296) (hi : a < 4294967296) : bits .or .u32 a (b * (2 ^ i : Nat)) = a + (2 ^ i : Nat) * b := by
  have hn : 0 ≤ b * (2 ^ i : Nat) := Int.mul_nonneg hb (Int.natCast_nonneg _)
  rw [u32_or _ _ ha hi hn hb']
  obtain ⟨m, rfl⟩ := Int.eq_ofNat_of_zero_le hb
  have e1 : ((m : Int) * ((2 ^ i : Nat) : Int)).toNat = m <<< i := by rw [Nat.shiftLeft_eq]; rfl
  have h2 : a.toNat < 2 ^ i := by omega
  rw [e1, Nat.or_comm, ← Nat.shiftLeft_add_eq_or_of_lt h2, Nat.shiftLeft_eq, Int.mul_comm]
  have : ((m * 2 ^ i : Nat) : Int) = (m : Int) * ((2 ^ i : Nat) : Int) := by push_cast; rfl
  omega

set_option maxHeartbeats 400000 in
set_option maxRecDepth 100000 in
theorem read_core (s : ByteArray) (b0 b1 b2 b3 b4 b5 b6 b7 : Int) (h0 : 0 < s.size) (h1 : 1 < s.size) (h2 : 2 < s.size) (h3 : 3 < s.size) (h4 : 4 < s.size) (h5 : 5 < s.size) (h6 : 6 < s.size) (h7 : 7 < s.size)
    (q0 : ((s[0]'h0).toNat : Int) = b0) (q1 : ((s[1]'h1).toNat : Int) = b1) (q2 : ((s[2]'h2).toNat : Int) = b2) (q3 : ((s[3]'h3).toNat : Int) = b3) (q4 : ((s[4]'h4).toNat : Int) = b4) (q5 : ((s[5]'h5).toNat : Int) = b5) (q6 : ((s[6]'h6).toNat : Int) = b6) (q7 : ((s[7]'h7).toNat : Int) = b7)
    (w : World) :
    Calls Try.prog 20 #[.string s] w fun e w' => e = .returned (.agg #[.int .u16 (b0 + 256 * b1), .int .u8 b2, .int .u8 b3, .int .u32 (b4 + 256 * b5 + 65536 * b6 + 16777216 * b7)]) ∧ Below w.heap.size w w' := by
  have g0 : 0 ≤ b0 ∧ b0 < 256 := by have := s[0].toNat_lt; omega
  have g1 : 0 ≤ b1 ∧ b1 < 256 := by have := s[1].toNat_lt; omega
  have g4 : 0 ≤ b4 ∧ b4 < 256 := by have := s[4].toNat_lt; omega
  have g5 : 0 ≤ b5 ∧ b5 < 256 := by have := s[5].toNat_lt; omega
  have g6 : 0 ≤ b6 ∧ b6 < 256 := by have := s[6].toNat_lt; omega
  have g7 : 0 ≤ b7 ∧ b7 < 256 := by have := s[7].toNat_lt; omega
  have i1 : (1 : Int) < (s.size : Int) := by omega
  have i2 : (2 : Int) < (s.size : Int) := by omega
  have i3 : (3 : Int) < (s.size : Int) := by omega
  have i4 : (4 : Int) < (s.size : Int) := by omega
  have i5 : (5 : Int) < (s.size : Int) := by omega
  have i6 : (6 : Int) < (s.size : Int) := by omega
  have i7 : (7 : Int) < (s.size : Int) := by omega
  have v0 : IntKind.u16.wrap b0 = b0 := by rw [IntKind.wrap_u16]; omega
  have v1 : IntKind.u16.wrap b1 = b1 := by rw [IntKind.wrap_u16]; omega
  have v4 : IntKind.u32.wrap b4 = b4 := by rw [IntKind.wrap_u32]; omega
  have v5 : IntKind.u32.wrap b5 = b5 := by rw [IntKind.wrap_u32]; omega
  have v6 : IntKind.u32.wrap b6 = b6 := by rw [IntKind.wrap_u32]; omega
  have v7 : IntKind.u32.wrap b7 = b7 := by rw [IntKind.wrap_u32]; omega
  have x1 : IntKind.u16.wrap (b1 * 256) = b1 * 256 := by rw [IntKind.wrap_u16]; omega
  have x5 : IntKind.u32.wrap (b5 * 256) = b5 * 256 := by rw [IntKind.wrap_u32]; omega
  have x6 : IntKind.u32.wrap (b6 * 65536) = b6 * 65536 := by rw [IntKind.wrap_u32]; omega
  have x7 : IntKind.u32.wrap (b7 * 16777216) = b7 * 16777216 := by rw [IntKind.wrap_u32]; omega
  have o1 := or16 b0 b1 (by omega) (by omega) (by omega) (by omega)
  have o2 : bits .or .u32 b4 (b5 * 256) = b4 + 256 * b5 := or32 b4 b5 8 (by omega) (by omega) (by omega) (by omega) (by omega)
  have o3 : bits .or .u32 (b4 + 256 * b5) (b6 * 65536) = b4 + 256 * b5 + 65536 * b6 := or32 _ b6 16 (by omega) (by omega) (by omega) (by omega) (by omega)
  have o4 : bits .or .u32 (b4 + 256 * b5 + 65536 * b6) (b7 * 16777216) = b4 + 256 * b5 + 65536 * b6 + 16777216 * b7 := or32 _ b7 24 (by omega) (by omega) (by omega) (by omega) (by omega)
  go_enter Try.func20, Try.ntmps20
  go_wp2_with fail
  refine wp_region_still_tail 31 (by kernel_rfl) (by kernel_rfl) ?_
  change wpStill _ _ (World.drew (w.alloc _)) (fun a' => wpList _ _ _ _ a' (World.drew (w.alloc _))) _ _
  simp only [List.take_succ_cons, List.take_zero, List.drop_succ_cons, List.drop_zero]
  repeat still_step
  refine wpStill_nil ?_
  go_wp2
  refine bodyPost_ret (v := .agg #[.int .u16 (b0 + 256 * b1), .int .u8 b2, .int .u8 b3, .int .u32 (b4 + 256 * b5 + 65536 * b6 + 16777216 * b7)]) ?_ rfl ⟨rfl, ((Below.refl _ _).alloc (Nat.le_refl _) _).drew⟩
  simp [results, Try.results20, go_sem]

theorem read_any (s : ByteArray) (hs : s.size = 8) (w : World) :
    Calls Try.prog 20 #[.string s] w fun e w' => e = .returned (.agg #[.int .u16 (M.rd s 0).1, .int .u8 (M.rd s 0).2.1, .int .u8 (M.rd s 0).2.2.1, .int .u32 (M.rd s 0).2.2.2]) ∧ Below w.heap.size w w' :=
  read_core s _ _ _ _ _ _ _ _ (by omega) (by omega) (by omega) (by omega) (by omega) (by omega) (by omega) (by omega)
    (M.at_get s 0 (by omega)) (M.at_get s 1 (by omega)) (M.at_get s 2 (by omega)) (M.at_get s 3 (by omega)) (M.at_get s 4 (by omega)) (M.at_get s 5 (by omega)) (M.at_get s 6 (by omega)) (M.at_get s 7 (by omega)) w
end Go.Proofs.Yteoamndpphpegaa.B
