/-
  How many bits a small number has, by the library, as walks over the Go text.
-/
import Derived.Test.YtmooalbbaiccjaaRows
import Derived.Laws.Shifts
import Derived.Lib.Strings
import Derived.Lib.Slices
import Derived.Lib.Small
import Derived.Lib.Walk
import Derived.Lib.BitFns
namespace Go.Proofs.Ytmooalbbaiccjaa.B

set_option maxHeartbeats 4000000 in
set_option maxRecDepth 100000 in
theorem len64_any (x : Int) (h0 : 0 ≤ x) (h1 : x < 256) (w : World) :
    Calls Try.prog 42 #[.int .u64 x] w fun e w' => e = .returned (.int .i64 (Lib.bitLen x.toNat)) ∧ w' = w := by
  go_enter Try.func42, Try.ntmps42
  go_wp2
  go_ret
  refine ⟨congrArg Ending.returned (congrArg (Value.int IntKind.i64) ?_), rfl⟩
  rw [Lib.len8_int (x % 256) (by omega) (by omega), show x % 256 = x by omega]

theorem bitLen_le (x : Nat) (h : x < 256) : Lib.bitLen x ≤ 8 := Lib.bitLen_le8 ⟨x, h⟩
theorem bitLen_few : ∀ n : Fin 50, 8 ≤ n.val → (Lib.bitLen n.val = 4 ∧ n.val < 16) ∨ (Lib.bitLen n.val = 5 ∧ 16 ≤ n.val ∧ n.val < 32) ∨ (Lib.bitLen n.val = 6 ∧ 32 ≤ n.val) := by decide +kernel

set_option maxHeartbeats 4000000 in
theorem len_any (x : Int) (h0 : 0 ≤ x) (h1 : x < 256) (w : World) :
    Calls Try.prog 31 #[.int .u64 x] w fun e w' => e = .returned (.int .i64 (Lib.bitLen x.toNat)) ∧ w' = w := by
  go_enter Try.func31, Try.ntmps31
  go_wp2_with (go_at_call 42; refine (len64_any _ h0 h1 _).mono ?_; rintro e w' ⟨rfl, rfl⟩)
  go_ret
  exact ⟨rfl, rfl⟩

set_option maxHeartbeats 4000000 in
/-- A power of two above n, and not above twice n. -/
theorem pow_any (n : Nat) (h8 : 8 ≤ n) (h50 : n < 50) (w : World) :
    ∃ m : Nat, (m = 16 ∨ m = 32 ∨ m = 64) ∧ n < m ∧ m ≤ 2 * n ∧ Calls Try.prog 44 #[.int .i64 (n : Int)] w fun e w' => e = .returned (.int .u64 (m : Int)) ∧ w' = w := by
  have hl : Calls Try.prog 31 #[.int .u64 (n : Int)] w fun e w' => e = .returned (.int .i64 (Lib.bitLen n)) ∧ w' = w := by
    have := len_any (n : Int) (by omega) (by omega) w
    rwa [Int.toNat_natCast] at this
  have hw : IntKind.u64.wrap (n : Int) = n := by
    show (n : Int) % 18446744073709551616 = n
    omega
  have few := bitLen_few ⟨n, h50⟩ h8
  simp only at few
  rcases few with ⟨e, h⟩ | ⟨e, h, h'⟩ | ⟨e, h⟩
  · refine ⟨16, .inl rfl, h, by omega, ?_⟩
    rw [e] at hl
    go_enter Try.func44, Try.ntmps44
    go_wp2_with (go_at_call 31; refine hl.mono ?_; rintro e w' ⟨rfl, rfl⟩)
    go_ret
    exact ⟨rfl, rfl⟩
  · refine ⟨32, .inr (.inl rfl), h', by omega, ?_⟩
    rw [e] at hl
    go_enter Try.func44, Try.ntmps44
    go_wp2_with (go_at_call 31; refine hl.mono ?_; rintro e w' ⟨rfl, rfl⟩)
    go_ret
    exact ⟨rfl, rfl⟩
  · refine ⟨64, .inr (.inr rfl), by omega, by omega, ?_⟩
    rw [e] at hl
    go_enter Try.func44, Try.ntmps44
    go_wp2_with (go_at_call 31; refine hl.mono ?_; rintro e w' ⟨rfl, rfl⟩)
    go_ret
    exact ⟨rfl, rfl⟩
end Go.Proofs.Ytmooalbbaiccjaa.B
