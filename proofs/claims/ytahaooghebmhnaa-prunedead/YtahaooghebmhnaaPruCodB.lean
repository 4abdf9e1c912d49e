/-
  The program's two closures (where a jump ends up, straight; how many needed places lie between), as walks over the Go text.
-/
import Derived.Test.YtahaooghebmhnaaPruCodA
import Derived.Lib.QuietBelow
import Derived.Deep.QuietTactic
import Derived.BigQuiet
namespace Go.Proofs.Ytahaooghebmhnaa.B
open Go.ChangeShapes Go.WideShapes Go.ChangeAt Go.RowKit
open Go.Sort hiding Below
set_option linter.unusedVariables false

set_option maxHeartbeats 1600000 in
set_option maxRecDepth 100000 in
theorem cfar (b o n cap p q tt r : Nat) (lim : Int) (hp : p ≤ 4096) (hq : (q : Int) < 4294967296) (htt : tt ≤ 4096) (hpt : tt = p + 1 + r) (c1 c2 c3 : Nat) (w : World)
    (HC : ∀ W, Below w.heap.size w W → Calls Try.prog 28 #[.slice (some ⟨b, o, none⟩) n cap, .int .i64 ((p : Int) + 1 + (q : Int)), .int .i64 lim] W fun e w' => e = .returned (.int .i64 (tt : Int)) ∧ Below W.heap.size W w')
    (h1 : w.cell? ⟨c1, 0, none⟩ = some (.slice (some ⟨b, o, none⟩) n cap)) (h2 : w.cell? ⟨c2, 0, none⟩ = some (.int .i64 p)) (h3 : w.cell? ⟨c3, 0, none⟩ = some (.int .i64 lim)) :
    Calls Try.prog 42 #[.int .i64 q, .pointer (some ⟨c1, 0, none⟩), .pointer (some ⟨c2, 0, none⟩), .pointer (some ⟨c3, 0, none⟩)] w fun e w' => e = .returned (.int .i64 (r : Int)) ∧ Below w.heap.size w w' := by
  have k1 := cell_regrown h1
  have k2 := cell_regrown h2
  have k3 := cell_regrown h3
  have HS := hid (fun d os => Calls.regrown_of (w := w) (d := d) (os := os) (HC _ (below_regrown w d os)))
  have z1 : IntKind.i64.wrap ((p : Int) + 1) = (p : Int) + 1 := Go.IntWalk.i64_in _ (by omega)
  have z2 : IntKind.i64.wrap ((p : Int) + 1 + (q : Int)) = (p : Int) + 1 + (q : Int) := Go.IntWalk.i64_in _ (by omega)
  have z3 : IntKind.i64.wrap ((tt : Int) - (p : Int)) = (tt : Int) - (p : Int) := Go.IntWalk.i64_in _ (by omega)
  have z4 : IntKind.i64.wrap ((tt : Int) - (p : Int) - 1) = (r : Int) := (Go.IntWalk.i64_in _ (by omega)).trans (by omega)
  clear HC hp hq htt hpt h1 h2 h3
  go_enter Try.func42, Try.ntmps42
  go_wp2_with fail
  refine wp_region_quiet_below (by kernel_rfl) (by kernel_rfl) ?_
  repeat (quiet_step (exact HS.out _ _))
  refine wpQuiet_nil ?_
  intro w2 hw2
  have HB := hid (show Below w.heap.size w w2 by obtain ⟨⟨d, os⟩, rfl⟩ := hw2; exact below_regrown _ _ _)
  clear hw2 k1 k2 k3 HS
  go_wp2
  go_ret
  exact ⟨rfl, HB.out⟩

set_option maxHeartbeats 1600000 in
set_option maxRecDepth 100000 in
theorem cnear (g n p q r : Nat) (A : Nat → Nat) (hn : n ≤ 4096) (hpq : p + 1 + q < n) (hA : A (p + 1 + q) = A (p + 1) + r) (hA2 : A (p + 1 + q) ≤ 4096) (c1 c2 : Nat) (w : World) (hR : Row w g n (fun j => .int .i64 (A j : Nat)))
    (h1 : w.cell? ⟨c1, 0, none⟩ = some (.slice (some ⟨g, 0, none⟩) n n)) (h2 : w.cell? ⟨c2, 0, none⟩ = some (.int .i64 p)) :
    Calls Try.prog 38 #[.int .i64 q, .pointer (some ⟨c1, 0, none⟩), .pointer (some ⟨c2, 0, none⟩)] w fun e w' => e = .returned (.int .i64 (r : Int)) ∧ Below w.heap.size w w' := by
  have z1 : IntKind.i64.wrap ((p : Int) + 1) = (p : Int) + 1 := Go.IntWalk.i64_in _ (by omega)
  have z2 : IntKind.i64.wrap ((p : Int) + 1 + (q : Int)) = (p : Int) + 1 + (q : Int) := Go.IntWalk.i64_in _ (by omega)
  have r1 := hR.cell (p + 1) (by omega)
  have r2 := hR.cell (p + 1 + q) hpq
  obtain ⟨x, hx⟩ : ∃ x, A (p + 1) = x := ⟨_, rfl⟩
  obtain ⟨y, hy⟩ : ∃ y, A (p + 1 + q) = y := ⟨_, rfl⟩
  simp only [hx] at r1
  simp only [hy] at r2
  rw [hx, hy] at hA
  rw [hy] at hA2
  have z3 : IntKind.i64.wrap ((y : Int) - (x : Int)) = (r : Int) := (Go.IntWalk.i64_in _ (by omega)).trans (by omega)
  have z4 : ((p : Int) + 1).toNat = p + 1 := by omega
  have z5 : ((p : Int) + 1 + (q : Int)).toNat = p + 1 + q := by omega
  have z6 : (p : Int) + 1 < (n : Int) := by omega
  have z7 : (p : Int) + 1 + (q : Int) < (n : Int) := by omega
  have z8 : ¬ ((p : Int) + 1 < 0) := by omega
  have z9 : ¬ ((p : Int) + 1 + (q : Int) < 0) := by omega
  have HB := hid (Below.refl w.heap.size w)
  clear hA hA2 hx hy hR hpq
  go_enter Try.func38, Try.ntmps38
  go_wp2
  go_quiet (fail)
  go_wp2
  go_ret
  exact ⟨rfl, bdrew HB.out nq⟩
end Go.Proofs.Ytahaooghebmhnaa.B
