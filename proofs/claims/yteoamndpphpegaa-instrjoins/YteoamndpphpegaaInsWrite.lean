/-
  An instruction written behind a row of bytes, as a walk over the Go text.
-/
import Derived.Test.YteoamndpphpegaaRows
import Derived.Test.YteoamndpphpegaaInsMath
import Derived.WalkKit
import Derived.ProofKit
import Derived.OpenShut
import Derived.WalkLawsBesides
import Derived.Laws.Shifts
import Derived.Laws.BitsAllLaws
import Derived.Laws.BytesString
import Derived.Laws.IdiomStrings
import Derived.Deep.QuietTactic
import Derived.BigQuiet
import Derived.Deep.RegionHeldLaw
import Derived.Deep.AppendLies
import Derived.Outline
namespace Go.Proofs.Yteoamndpphpegaa.B
open Go.ChangeShapes Go.WideShapes Go.ChangeAt Go.RowKit
set_option linter.unusedVariables false

theorem info5 : (Try.prog.info? 5).map (fun i => (i.zero, i.size, i.bytes)) = some (some (.int .u8 0), 1, 1) := by kernel_rfl
theorem info39 : (Try.prog.info? 39).map (fun i => (i.zero, i.size, i.bytes)) = some (some (.agg #[.int .u16 0, .int .u8 0, .int .u8 0, .int .u32 0]), 4, 8) := by kernel_rfl
def u8s (l : List Int) : List Value := l.map (Value.int .u8)
def iv (c t f k : Int) : Value := .agg #[.int .u16 c, .int .u8 t, .int .u8 f, .int .u32 k]

theorem below_own2 {w w1 : World} {base : Nat} {e : TypeId} {size : Nat} {v : Value} {n : Nat} {xs : List Value} (hown : w.ownsRow base e size v n xs) (hb : base ≤ w.heap.size) {o1 o2 : Obj} (hg : ((w.alloc o1).alloc o2).grownBy w1 v.ownBlock) : Below base w w1 :=
  (((Below.refl base w).alloc hb o1).alloc (by simp; omega) o2).grown hg (by simp; omega) (fun k hk => (hown.lt k hk).1)
theorem below_own1 {w w1 : World} {base : Nat} {e : TypeId} {size : Nat} {v : Value} {n : Nat} {xs : List Value} (hown : w.ownsRow base e size v n xs) (hb : base ≤ w.heap.size) {o1 : Obj} (hg : (w.alloc o1).grownBy w1 v.ownBlock) : Below base w w1 :=
  ((Below.refl base w).alloc hb o1).grown hg (by simp; omega) (fun k hk => (hown.lt k hk).1)
theorem news2 (w : World) (o : Obj) (cs : Array Value) {t : TypeId} {l : List Value} (h : cs.toList = l) :
    ∀ (j : Nat) (u : Value), l[j]? = some u → ((w.alloc o).alloc (Obj.cells cs t)).cell? ((⟨w.heap.size + 1, 0, none⟩ : Addr).add j) = some u := by
  subst h
  exact World.news_of_block (fr := (0, 0)) (t := t) (by have := heap_alloc_new (w.alloc o) (Obj.cells cs t); simpa using this)

set_option maxHeartbeats 1600000 in
set_option maxRecDepth 1000000 in
theorem write_any (c t f k : Int) (ok : M.okI (c, t, f, k))
    (v : Value) (n base : Nat) (xs : List Value) (w : World) (hown : w.ownsRow base 5 1 v n xs) (hb : base ≤ w.heap.size) (hn : n + 8 ≤ 65536) :
    Calls Try.prog 21 #[v, .agg #[.int .u16 c, .int .u8 t, .int .u8 f, .int .u32 k]] w fun e w' => ∃ g cap, e = .returned (.slice (some ⟨g, 0, none⟩) (n + 8) cap) ∧
      w'.ownsRow base 5 1 (.slice (some ⟨g, 0, none⟩) (n + 8) cap) (n + 8) (xs ++ u8s (M.by8 (c, t, f, k))) ∧ Below base w w' := by
  obtain ⟨i0, hi, hz0, hz1, hz2⟩ := info_parts info5
  have hc : 0 ≤ c := ok.1.1
  have hc' : c < 65536 := ok.1.2
  have hk : 0 ≤ k := ok.2.2.2.1
  have hk' : k < 4294967296 := ok.2.2.2.2
  have e1 : c / 256 % 256 = c / 256 := by omega
  have e2 : k / 16777216 % 256 = k / 16777216 := by omega
  go_enter Try.func21, Try.ntmps21
  go_wp2_with (at_builtin; refine wpList_append_lies _ rfl _ _ 45 rfl base 5 i0 (.int .u8 0) 1 1 Try.underlying45 hi hz0 hz1 hz2 rfl (by decide) v n xs rfl ((hown.alloc _).alloc _) ⟨w.heap.size + 1, 0, none⟩ 8 8 (u8s (M.by8 (c, t, f, k))) rfl rfl ?c1 ?c2 (by decide) ?c3 ?c4 ?c5 (w.heap.size + 2) ?c6 ?_)
  case c1 => exact news2 w _ _ rfl
  case c2 => intro u hu; obtain ⟨x, _, rfl⟩ := List.mem_map.1 hu; rfl
  case c3 => unfold maxLen; omega
  case c4 => omega
  case c5 => simp; omega
  case c6 => simp
  · intro g cap w1 hown1 hgrow hat hlt
    have hB := below_own2 hown hb hgrow
    clear hown hgrow
    go_wp2
    go_ret
    exact ⟨g, cap, rfl, hown1, hB⟩

theorem conv_own {W : World} {base g n cap : Nat} {ns : List Int} (h : W.ownsRow base 5 1 (.slice (some ⟨g, 0, none⟩) n cap) n (u8s ns)) :
    (convert 45 9 (.slice (some ⟨g, 0, none⟩) n cap)).run Try.prog W = .ok (.string (M.str ns)) W := by
  rw [run_convert_bytes_string W 45 9 5 (some ⟨g, 0, none⟩) n cap Try.underlying45 Try.underlying5 Try.underlying9]
  have hl : (u8s ns).length = n := by have := h.1; omega
  have hr := run_loadCells_list (P := Try.prog) (w := W) ⟨g, 0, none⟩ (u8s ns) (h.cells rfl)
  rw [hl] at hr
  exact run_bytesToString W ⟨g, 0, none⟩ n cap ns hr

theorem make8 (cap : Nat) (h : cap ≤ 65536) : ∃ cs : Array Value, cs.size = cap ∧ ∀ W : World, (Instr.makeSlice 45 (.int .i64 0) (.int .i64 (cap : Int))).run Try.prog W = .ok (.slice (some ⟨W.heap.size, 0, none⟩) 0 cap) (W.alloc (.cells cs 5)) := by
  obtain ⟨i0, hi, hz0, hz1, hz2⟩ := info_parts info5
  refine ⟨madeCells #[.int .u8 0] cap, size_madeCells _ _, fun W => ?_⟩
  have := run_make (P := Try.prog) W 45 5 i0 (.int .u8 0) Try.underlying45 hi hz0 .i64 .i64 0 (cap : Int) (by omega) (by omega) (by rw [hz2]; omega) (by omega)
  rw [this, hz1]; simp [Value.cells]
theorem make4 (cap : Nat) (h : cap ≤ 65536) : ∃ cs : Array Value, cs.size = cap * 4 ∧ ∀ W : World, (Instr.makeSlice 23 (.int .i64 0) (.int .i64 (cap : Int))).run Try.prog W = .ok (.slice (some ⟨W.heap.size, 0, none⟩) 0 cap) (W.alloc (.cells cs 39)) := by
  obtain ⟨i0, hi, hz0, hz1, hz2⟩ := info_parts info39
  refine ⟨madeCells #[.int .u16 0, .int .u8 0, .int .u8 0, .int .u32 0] (cap * 4), size_madeCells _ _, fun W => ?_⟩
  have := run_make (P := Try.prog) W 23 39 i0 _ Try.underlying23 hi hz0 .i64 .i64 0 (cap : Int) (by omega) (by omega) (by rw [hz2]; omega) (by omega)
  rw [this, hz1]; rfl

theorem own_new8 (w : World) (o : Obj) (cs : Array Value) {cap : Nat} (hcs : cs.size = cap) (h : cap ≤ 65536) : ((w.alloc o).alloc (.cells cs 5)).drew.ownsRow (w.heap.size + 1) 5 1 (.slice (some ⟨w.heap.size + 1, 0, none⟩) 0 cap) 0 [] := by
  have := World.ownsRow_made (base := w.heap.size + 1) (e := 5) (size := 1) (w.alloc o) cs cap (by simp) (by unfold maxLen; omega) (by omega)
  have := this.drew
  simpa using this

set_option maxHeartbeats 3200000 in
set_option maxRecDepth 1000000 in
theorem one_any (c t f k : Int) (ok : M.okI (c, t, f, k)) (w : World) :
    Calls Try.prog 18 #[.agg #[.int .u16 c, .int .u8 t, .int .u8 f, .int .u32 k]] w fun e w' => e = .returned (.string (M.str (M.by8 (c, t, f, k)))) ∧ Below w.heap.size w w' := by
  obtain ⟨cs, hcs, hmk⟩ := make8 8 (by omega)
  have hmk : ∀ W : World, (Instr.makeSlice 45 (.int .i64 0) (.int .i64 8)).run Try.prog W = .ok (.slice (some ⟨W.heap.size, 0, none⟩) 0 8) (W.alloc (.cells cs 5)) := hmk
  go_enter Try.func18, Try.ntmps18
  go_wp2_with fail
  go_region_held_law (fun w' => w'.cell? ⟨w.heap.size, 0, none⟩ = some (.int .u16 c) ∧ w'.cell? ⟨w.heap.size, 1, none⟩ = some (.int .u8 t) ∧ w'.cell? ⟨w.heap.size, 2, none⟩ = some (.int .u8 f) ∧ w'.cell? ⟨w.heap.size, 3, none⟩ = some (.int .u32 k))
    (go_keep)
    ((go_at_call 21; refine (write_any c t f k ok _ 0 (w.heap.size + 1) [] _ ?q1 ?q2 (by omega)).mono ?_; (case q1 => exact own_new8 w _ cs hcs (by omega)); (case q2 => simp); rintro e w' ⟨g, cap, rfl, hown, hB⟩; have hcv := conv_own hown; have k0 := hB.cell (p := ⟨w.heap.size, 0, none⟩) (by simp); have k1 := hB.cell (p := ⟨w.heap.size, 1, none⟩) (by simp); have k2 := hB.cell (p := ⟨w.heap.size, 2, none⟩) (by simp); have k3 := hB.cell (p := ⟨w.heap.size, 3, none⟩) (by simp)))
  have hB1 : Below w.heap.size w w' := ((((Below.refl _ _).alloc (Nat.le_refl _) _).alloc (by simp) _).drew).trans (hB.mono (by simp))
  clear hB hown hcv k0 k1 k2 k3
  go_wp2
  go_ret
  exact ⟨rfl, hB1⟩
end Go.Proofs.Yteoamndpphpegaa.B
