/-
  An instruction written behind a row of bytes, as a walk over the Go text.
-/
import Derived.Test.YtapjjpjiggjlfaaDoorRows
import Derived.Test.YtapjjpjiggjlfaaDoorInsMath
import Derived.WalkKit
import Derived.ProofKit
import Derived.OpenShut
import Derived.WalkLawsBesides
import Derived.Laws.Shifts
import Derived.Laws.BitsAllLaws
import Derived.Laws.BytesString
import Derived.Laws.IdiomStrings
import Derived.Deep.QuietTactic
import Derived.BigQuiet
import Derived.Deep.RegionHeldLaw
import Derived.Deep.AppendLies
import Derived.Outline
namespace Go.Proofs.YtapjjpjiggjlfaaDoor.B
open Go.ChangeShapes Go.WideShapes Go.ChangeAt Go.RowKit
set_option linter.unusedVariables false

theorem info5 : (Tryd.prog.info? 5).map (fun i => (i.zero, i.size, i.bytes)) = some (some (.int .u8 0), 1, 1) := by kernel_rfl
theorem info39 : (Tryd.prog.info? 25).map (fun i => (i.zero, i.size, i.bytes)) = some (some (.agg #[.int .u16 0, .int .u8 0, .int .u8 0, .int .u32 0]), 4, 8) := by kernel_rfl
def u8s (l : List Int) : List Value := l.map (Value.int .u8)
def iv (c t f k : Int) : Value := .agg #[.int .u16 c, .int .u8 t, .int .u8 f, .int .u32 k]

theorem below_own2 {w w1 : World} {base : Nat} {e : TypeId} {size : Nat} {v : Value} {n : Nat} {xs : List Value} (hown : w.ownsRow base e size v n xs) (hb : base ≤ w.heap.size) {o1 o2 : Obj} (hg : ((w.alloc o1).alloc o2).grownBy w1 v.ownBlock) : Below base w w1 :=
  (((Below.refl base w).alloc hb o1).alloc (by simp; omega) o2).grown hg (by simp; omega) (fun k hk => (hown.lt k hk).1)
theorem below_own1 {w w1 : World} {base : Nat} {e : TypeId} {size : Nat} {v : Value} {n : Nat} {xs : List Value} (hown : w.ownsRow base e size v n xs) (hb : base ≤ w.heap.size) {o1 : Obj} (hg : (w.alloc o1).grownBy w1 v.ownBlock) : Below base w w1 :=
  ((Below.refl base w).alloc hb o1).grown hg (by simp; omega) (fun k hk => (hown.lt k hk).1)
theorem news2 (w : World) (o : Obj) (cs : Array Value) {t : TypeId} {l : List Value} (h : cs.toList = l) :
    ∀ (j : Nat) (u : Value), l[j]? = some u → ((w.alloc o).alloc (Obj.cells cs t)).cell? ((⟨w.heap.size + 1, 0, none⟩ : Addr).add j) = some u := by
  subst h
  exact World.news_of_block (fr := (0, 0)) (t := t) (by have := heap_alloc_new (w.alloc o) (Obj.cells cs t); simpa using this)

set_option maxHeartbeats 1600000 in
set_option maxRecDepth 1000000 in
theorem write_any (c t f k : Int) (ok : M.okI (c, t, f, k))
    (v : Value) (n base : Nat) (xs : List Value) (w : World) (hown : w.ownsRow base 5 1 v n xs) (hb : base ≤ w.heap.size) (hn : n + 8 ≤ 65536) :
    Calls Tryd.prog 50 #[v, .agg #[.int .u16 c, .int .u8 t, .int .u8 f, .int .u32 k]] w fun e w' => ∃ g cap, e = .returned (.slice (some ⟨g, 0, none⟩) (n + 8) cap) ∧
      w'.ownsRow base 5 1 (.slice (some ⟨g, 0, none⟩) (n + 8) cap) (n + 8) (xs ++ u8s (M.by8 (c, t, f, k))) ∧ Below base w w' := by
  obtain ⟨i0, hi, hz0, hz1, hz2⟩ := info_parts info5
  have hc : 0 ≤ c := ok.1.1
  have hc' : c < 65536 := ok.1.2
  have hk : 0 ≤ k := ok.2.2.2.1
  have hk' : k < 4294967296 := ok.2.2.2.2
  have e1 : c / 256 % 256 = c / 256 := by omega
  have e2 : k / 16777216 % 256 = k / 16777216 := by omega
  go_enter Tryd.func50, Tryd.ntmps50
  go_wp2_with (at_builtin; refine wpList_append_lies _ rfl _ _ 70 rfl base 5 i0 (.int .u8 0) 1 1 Tryd.underlying70 hi hz0 hz1 hz2 rfl (by decide) v n xs rfl ((hown.alloc _).alloc _) ⟨w.heap.size + 1, 0, none⟩ 8 8 (u8s (M.by8 (c, t, f, k))) rfl rfl ?c1 ?c2 (by decide) ?c3 ?c4 ?c5 (w.heap.size + 2) ?c6 ?_)
  case c1 => exact news2 w _ _ rfl
  case c2 => intro u hu; obtain ⟨x, _, rfl⟩ := List.mem_map.1 hu; rfl
  case c3 => unfold maxLen; omega
  case c4 => omega
  case c5 => simp; omega
  case c6 => simp
  · intro g cap w1 hown1 hgrow hat hlt
    have hB := below_own2 hown hb hgrow
    clear hown hgrow
    go_wp2
    go_ret
    exact ⟨g, cap, rfl, hown1, hB⟩

theorem conv_own {W : World} {base g n cap : Nat} {ns : List Int} (h : W.ownsRow base 5 1 (.slice (some ⟨g, 0, none⟩) n cap) n (u8s ns)) :
    (convert 70 9 (.slice (some ⟨g, 0, none⟩) n cap)).run Tryd.prog W = .ok (.string (M.str ns)) W := by
  rw [run_convert_bytes_string W 70 9 5 (some ⟨g, 0, none⟩) n cap Tryd.underlying70 Tryd.underlying5 Tryd.underlying9]
  have hl : (u8s ns).length = n := by have := h.1; omega
  have hr := run_loadCells_list (P := Tryd.prog) (w := W) ⟨g, 0, none⟩ (u8s ns) (h.cells rfl)
  rw [hl] at hr
  exact run_bytesToString W ⟨g, 0, none⟩ n cap ns hr

theorem make8 (cap : Nat) (h : cap ≤ 65536) : ∃ cs : Array Value, cs.size = cap ∧ ∀ W : World, (Instr.makeSlice 70 (.int .i64 0) (.int .i64 (cap : Int))).run Tryd.prog W = .ok (.slice (some ⟨W.heap.size, 0, none⟩) 0 cap) (W.alloc (.cells cs 5)) := by
  obtain ⟨i0, hi, hz0, hz1, hz2⟩ := info_parts info5
  refine ⟨madeCells #[.int .u8 0] cap, size_madeCells _ _, fun W => ?_⟩
  have := run_make (P := Tryd.prog) W 70 5 i0 (.int .u8 0) Tryd.underlying70 hi hz0 .i64 .i64 0 (cap : Int) (by omega) (by omega) (by rw [hz2]; omega) (by omega)
  rw [this, hz1]; simp [Value.cells]
theorem make4 (cap : Nat) (h : cap ≤ 65536) : ∃ cs : Array Value, cs.size = cap * 4 ∧ ∀ W : World, (Instr.makeSlice 37 (.int .i64 0) (.int .i64 (cap : Int))).run Tryd.prog W = .ok (.slice (some ⟨W.heap.size, 0, none⟩) 0 cap) (W.alloc (.cells cs 25)) := by
  obtain ⟨i0, hi, hz0, hz1, hz2⟩ := info_parts info39
  refine ⟨madeCells #[.int .u16 0, .int .u8 0, .int .u8 0, .int .u32 0] (cap * 4), size_madeCells _ _, fun W => ?_⟩
  have := run_make (P := Tryd.prog) W 37 25 i0 _ Tryd.underlying37 hi hz0 .i64 .i64 0 (cap : Int) (by omega) (by omega) (by rw [hz2]; omega) (by omega)
  rw [this, hz1]; rfl

theorem own_new8 (w : World) (o : Obj) (cs : Array Value) {cap : Nat} (hcs : cs.size = cap) (h : cap ≤ 65536) : ((w.alloc o).alloc (.cells cs 5)).drew.ownsRow (w.heap.size + 1) 5 1 (.slice (some ⟨w.heap.size + 1, 0, none⟩) 0 cap) 0 [] := by
  have := World.ownsRow_made (base := w.heap.size + 1) (e := 5) (size := 1) (w.alloc o) cs cap (by simp) (by unfold maxLen; omega) (by omega)
  have := this.drew
  simpa using this

end Go.Proofs.YtapjjpjiggjlfaaDoor.B
