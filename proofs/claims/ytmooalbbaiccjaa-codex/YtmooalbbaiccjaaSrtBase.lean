/-
  A row of numbers of 16 bits that is sorted in place: what a world in which it lies looks like; the library's test 'less', and its sort by insertion, as walks over the Go text.
-/
import Derived.Test.YtmooalbbaiccjaaRows
import Derived.Sort.AssemblyPlain
import Derived.Sort.Grow
import Derived.WalkKit
import Derived.ProofKit
import Derived.OpenShut
import Derived.WalkLawsBesides
import Derived.BigGuard
import Derived.BigCall
import Derived.CellFam
import Derived.Deep.Draws
import Derived.Deep.QuietTactic
import Derived.BigQuiet
import Derived.Outline
import Derived.Deep.RegionHeld
namespace Go.Proofs.Ytmooalbbaiccjaa.B
open Go.ChangeShapes Go.WideShapes Go.ChangeAt Go.RowKit
open Go.Sort hiding Below
set_option linter.unusedVariables false

abbrev u (x : Int) : Value := .int .u16 x
def nat : Value → Int | .int _ q => q | _ => 0

/-- In W the row b, o holds d, of N numbers; below n₀ all is as in w. -/
structure Rw (N n₀ b o : Nat) (w : World) (d : Array Int) (W : World) : Prop where
  size : d.size = N
  holds : Holds (Value.int .u16) W b o d
  below : Below n₀ w W
  fresh : n₀ ≤ b
  lt : b < W.heap.size

theorem below_drawn {B : Nat} {a w : World} (h : Below B a w) (n : Nat) : Below B a (w.drewN n) := ⟨h.os, h.tape, h.output, h.size, h.block⟩
theorem dd (w : World) (a b : Nat) : (w.drewN a).drewN b = w.drewN (a + b) := by simp [World.drewN, Nat.add_assoc]

section
variable {N n₀ b o : Nat} {w : World} {d : Array Int} {W : World}
theorem Rw.drewN (h : Rw N n₀ b o w d W) (q : Nat) : Rw N n₀ b o w d (W.drewN q) := ⟨h.size, h.holds, below_drawn h.below q, h.fresh, h.lt⟩
theorem Rw.alloc (h : Rw N n₀ b o w d W) (x : Obj) : Rw N n₀ b o w d (W.alloc x) :=
  ⟨h.size, by rw [alloc_eq_grow]; exact holds_grow _ _ _ _ _ _ h.lt h.holds, h.below.alloc (Nat.le_of_lt (Nat.lt_of_le_of_lt h.fresh h.lt)) _, h.fresh, by have := h.lt; simp; omega⟩
/-- A store into another block, that lies behind. -/
theorem Rw.other (h : Rw N n₀ b o w d W) (c k : Nat) (v : Value) (hc : n₀ ≤ c) (hne : c ≠ b) : Rw N n₀ b o w d (W.setCell ⟨c, k, none⟩ v) :=
  ⟨h.size, fun j hj => ⟨(World.cell?_setCell_far _ _ _ _ (by simpa using hne)).trans (h.holds j hj).1, by rw [World.frozen?_setCell]; exact (h.holds j hj).2⟩, h.below.setCell (p := ⟨c, k, none⟩) hc _, h.fresh, by have := h.lt; simpa using this⟩
theorem Rw.swp (h : Rw N n₀ b o w d W) (q i j : Nat) (hi : i < N) (hj : j < N) :
    Rw N n₀ b o w (swp d i j) (((W.drewN q).setCell ⟨b, o + i, none⟩ (.int .u16 d[j]!)).setCell ⟨b, o + j, none⟩ (.int .u16 d[i]!)) := by
  have hq := h.drewN q
  have e := putRow_swp (Value.int .u16) (W.drewN q) b o d i j (by rw [h.size]; exact hi) (by rw [h.size]; exact hj)
  rw [putRow_self _ _ _ _ _ hq.holds] at e
  refine ⟨by rw [size_swp]; exact h.size, ?_, (hq.below.setCell (p := ⟨b, o + i, none⟩) h.fresh _).setCell (p := ⟨b, o + j, none⟩) h.fresh _, h.fresh, by have := h.lt; simpa using this⟩
  rw [e]
  exact holds_putRow _ _ _ _ d _ hq.holds (size_swp _ _ _)
/-- The row's contents by a function of their own. -/
theorem Rw.opn (h : Rw N n₀ b o w d W) : ∃ G : Nat → Int, Hid (∀ t, G t = d[t]!) ∧ (∀ t, t < N → W.cell? ⟨b, o + t, none⟩ = some (.int .u16 (G t))) ∧ (∀ t, t < N → W.frozen? ⟨b, o + t, none⟩ = false) :=
  ⟨fun t => d[t]!, fun _ => rfl, fun t ht => (h.holds t (by rw [h.size]; exact ht)).1, fun t ht => (h.holds t (by rw [h.size]; exact ht)).2⟩
end

set_option maxHeartbeats 1000000 in
theorem nan_any (x : Int) (w : World) : Calls Try.prog 48 #[.int .u16 x] w fun e w' => e = .returned (.bool false) ∧ w' = w := by
  go_enter Try.func48, Try.ntmps48
  go_wp2
  go_ret
  exact ⟨by simp, rfl⟩

set_option maxHeartbeats 1000000 in
theorem less_any (x y : Int) (w : World) : Calls Try.prog 38 #[.int .u16 x, .int .u16 y] w fun e w' => e = .returned (.bool (ltInt x y)) ∧ w' = w := by
  go_enter Try.func38, Try.ntmps38
  go_wp2_with (go_at_call 48; refine (nan_any _ _).mono ?_; rintro e w' ⟨rfl, rfl⟩)
  go_ret
  exact ⟨rfl, rfl⟩
end Go.Proofs.Ytmooalbbaiccjaa.B
