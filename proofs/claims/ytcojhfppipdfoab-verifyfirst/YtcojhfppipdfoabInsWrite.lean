/-
  An instruction written behind a row of bytes, as a walk over the Go text.
-/
import Derived.Test.YtcojhfppipdfoabRows
import Derived.Test.YtcojhfppipdfoabInsMath
import Derived.WalkKit
import Derived.ProofKit
import Derived.OpenShut
import Derived.WalkLawsBesides
import Derived.Laws.Shifts
import Derived.Laws.BitsAllLaws
import Derived.Laws.BytesString
import Derived.Laws.IdiomStrings
import Derived.Deep.QuietTactic
import Derived.BigQuiet
import Derived.Deep.RegionHeldLaw
import Derived.Deep.AppendLies
import Derived.Outline
namespace Go.Proofs.Ytcojhfppipdfoab.B
open Go.ChangeShapes Go.WideShapes Go.ChangeAt Go.RowKit
set_option linter.unusedVariables false

theorem info5 : (Try.prog.info? 5).map (fun i => (i.zero, i.size, i.bytes)) = some (some (.int .u8 0), 1, 1) := by kernel_rfl
theorem info39 : (Try.prog.info? 32).map (fun i => (i.zero, i.size, i.bytes)) = some (some (.agg #[.int .u16 0, .int .u8 0, .int .u8 0, .int .u32 0]), 4, 8) := by kernel_rfl
def u8s (l : List Int) : List Value := l.map (Value.int .u8)
def iv (c t f k : Int) : Value := .agg #[.int .u16 c, .int .u8 t, .int .u8 f, .int .u32 k]

theorem below_own2 {w w1 : World} {base : Nat} {e : TypeId} {size : Nat} {v : Value} {n : Nat} {xs : List Value} (hown : w.ownsRow base e size v n xs) (hb : base ≤ w.heap.size) {o1 o2 : Obj} (hg : ((w.alloc o1).alloc o2).grownBy w1 v.ownBlock) : Below base w w1 :=
  (((Below.refl base w).alloc hb o1).alloc (by simp; omega) o2).grown hg (by simp; omega) (fun k hk => (hown.lt k hk).1)
theorem below_own1 {w w1 : World} {base : Nat} {e : TypeId} {size : Nat} {v : Value} {n : Nat} {xs : List Value} (hown : w.ownsRow base e size v n xs) (hb : base ≤ w.heap.size) {o1 : Obj} (hg : (w.alloc o1).grownBy w1 v.ownBlock) : Below base w w1 :=
  ((Below.refl base w).alloc hb o1).grown hg (by simp; omega) (fun k hk => (hown.lt k hk).1)
theorem news2 (w : World) (o : Obj) (cs : Array Value) {t : TypeId} {l : List Value} (h : cs.toList = l) :
    ∀ (j : Nat) (u : Value), l[j]? = some u → ((w.alloc o).alloc (Obj.cells cs t)).cell? ((⟨w.heap.size + 1, 0, none⟩ : Addr).add j) = some u := by
  subst h
  exact World.news_of_block (fr := (0, 0)) (t := t) (by have := heap_alloc_new (w.alloc o) (Obj.cells cs t); simpa using this)

theorem make4 (cap : Nat) (h : cap ≤ 65536) : ∃ cs : Array Value, cs.size = cap * 4 ∧ ∀ W : World, (Instr.makeSlice 22 (.int .i64 0) (.int .i64 (cap : Int))).run Try.prog W = .ok (.slice (some ⟨W.heap.size, 0, none⟩) 0 cap) (W.alloc (.cells cs 32)) := by
  obtain ⟨i0, hi, hz0, hz1, hz2⟩ := info_parts info39
  refine ⟨madeCells #[.int .u16 0, .int .u8 0, .int .u8 0, .int .u32 0] (cap * 4), size_madeCells _ _, fun W => ?_⟩
  have := run_make (P := Try.prog) W 22 32 i0 _ Try.underlying22 hi hz0 .i64 .i64 0 (cap : Int) (by omega) (by omega) (by rw [hz2]; omega) (by omega)
  rw [this, hz1]; rfl

theorem own_new8 (w : World) (o : Obj) (cs : Array Value) {cap : Nat} (hcs : cs.size = cap) (h : cap ≤ 65536) : ((w.alloc o).alloc (.cells cs 5)).drew.ownsRow (w.heap.size + 1) 5 1 (.slice (some ⟨w.heap.size + 1, 0, none⟩) 0 cap) 0 [] := by
  have := World.ownsRow_made (base := w.heap.size + 1) (e := 5) (size := 1) (w.alloc o) cs cap (by simp) (by unfold maxLen; omega) (by omega)
  have := this.drew
  simpa using this

end Go.Proofs.Ytcojhfppipdfoab.B
