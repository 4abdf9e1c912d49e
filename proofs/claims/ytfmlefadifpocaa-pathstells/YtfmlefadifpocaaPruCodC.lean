/-
  The program's turned (an instruction whose jumps leave out as many places as a closure tells), as walks over the Go text.
-/
import Derived.Test.YtfmlefadifpocaaJV
import Derived.Deep.RegionLaw
namespace Go.Proofs.Ytfmlefadifpocaa.B
open Go.ChangeShapes Go.WideShapes Go.ChangeAt Go.RowKit
open Go.Sort hiding Below
set_option linter.unusedVariables false

theorem results_cell4 {fn : Func} (h : fn.results = #[.cell 4 38]) (tmps : Array Value) (w : World) {b : Nat} {c t f k : Int} (hp : tmps[4]?.getD undef = .pointer (some ⟨b, 0, none⟩)) (hA : At w b c t f k) :
    (results fn tmps).run Try.prog w = .ok (.agg #[.int .u16 c, .int .u8 t, .int .u8 f, .int .u32 k]) w := by
  obtain ⟨a0, a1, a2, a3, a4⟩ := hA.cells
  simp [results, h, hp, go_sem, a0, a1, a2, a3]

set_option maxHeartbeats 1600000 in
set_option maxRecDepth 1000000 in
theorem cturn_noS (c t f k : Int) (ok : M.okI (c, t, f, k)) (c1 c2 c3 : Nat) (w : World) (h1 : M.kind c ≠ 11) (h2 : M.kind c ≠ 12) :
    Calls Try.prog 34 #[.agg #[.int .u16 c, .int .u8 t, .int .u8 f, .int .u32 k], .func (.func 45) #[] #[.pointer (some ⟨c1, 0, none⟩), .pointer (some ⟨c2, 0, none⟩), .pointer (some ⟨c3, 0, none⟩)]] w fun e w' => e = .returned (.agg #[.int .u16 c, .int .u8 t, .int .u8 f, .int .u32 k]) ∧ Below w.heap.size w w' := by
  have hA := ((At.new w c t f k).alloc (.cells #[.int .u16 0, .int .u8 0, .int .u8 0, .int .u32 0] 38))
  have hO := At.new (w.alloc (.cells #[.int .u16 c, .int .u8 t, .int .u8 f, .int .u32 k] 38)) 0 0 0 0
  have HB := hid ((al w (.cells #[.int .u16 c, .int .u8 t, .int .u8 f, .int .u32 k] 38)).trans ((al _ (.cells #[.int .u16 0, .int .u8 0, .int .u8 0, .int .u32 0] 38)).mono (al _ _).size))
  have hsO : (w.alloc (.cells #[.int .u16 c, .int .u8 t, .int .u8 f, .int .u32 k] 38)).heap.size = w.heap.size + 1 := by simp
  rw [hsO] at hO
  obtain ⟨_, b1, b2, b3⟩ := ok
  simp only at b1 b2 b3
  have d1 : (M.kind c == 11) = false := beq_eq_false_iff_ne.2 h1
  have d2 : (M.kind c == 12) = false := beq_eq_false_iff_ne.2 h2
  clear h1 h2
  obtain ⟨a0, a1, a2, a3, a4⟩ := hA.cells
  obtain ⟨o0, o1, o2, o3, o4⟩ := hO.cells
  go_enter Try.func34, Try.ntmps34
  go_wp2_with fail
  refine (kind_any _ _).mono ?_
  rintro e w1 ⟨rfl, hw1⟩
  subst hw1
  clear a0 a1 a2 a3 a4 o0 o1 o2 o3 o4 hsO
  generalize hW0 : (w.alloc (.cells #[.int .u16 c, .int .u8 t, .int .u8 f, .int .u32 k] 38)).alloc (.cells #[.int .u16 0, .int .u8 0, .int .u8 0, .int .u32 0] 38) = W0 at *
  clear hW0
  obtain ⟨a0, a1, a2, a3, a4⟩ := hA.cells
  obtain ⟨o0, o1, o2, o3, o4⟩ := hO.cells
  go_wp2
  refine bodyPost_ret (results_cell4 (c := c) (t := t) (f := f) (k := k) rfl _ _ rfl (hO.put c t f k)) rfl ?_
  exact ⟨rfl, put_below HB.out (by omega)⟩

set_option maxHeartbeats 1600000 in
set_option maxRecDepth 1000000 in
theorem cturn_jaS (c t f k : Int) (ok : M.okI (c, t, f, k)) (c1 c2 c3 : Nat) (w : World) (h1 : M.kind c = 11) (r : Nat) (hr : r < 4294967296) (HC : ∀ W, Below w.heap.size w W → Calls Try.prog 45 #[.int .i64 k, .pointer (some ⟨c1, 0, none⟩), .pointer (some ⟨c2, 0, none⟩), .pointer (some ⟨c3, 0, none⟩)] W fun e w' => e = .returned (.int .i64 (r : Int)) ∧ Below W.heap.size W w') :
    Calls Try.prog 34 #[.agg #[.int .u16 c, .int .u8 t, .int .u8 f, .int .u32 k], .func (.func 45) #[] #[.pointer (some ⟨c1, 0, none⟩), .pointer (some ⟨c2, 0, none⟩), .pointer (some ⟨c3, 0, none⟩)]] w fun e w' => e = .returned (.agg #[.int .u16 c, .int .u8 t, .int .u8 f, .int .u32 (r : Int)]) ∧ Below w.heap.size w w' := by
  have hA := ((At.new w c t f k).alloc (.cells #[.int .u16 0, .int .u8 0, .int .u8 0, .int .u32 0] 38))
  have hO := At.new (w.alloc (.cells #[.int .u16 c, .int .u8 t, .int .u8 f, .int .u32 k] 38)) 0 0 0 0
  have HB := hid ((al w (.cells #[.int .u16 c, .int .u8 t, .int .u8 f, .int .u32 k] 38)).trans ((al _ (.cells #[.int .u16 0, .int .u8 0, .int .u8 0, .int .u32 0] 38)).mono (al _ _).size))
  have hsO : (w.alloc (.cells #[.int .u16 c, .int .u8 t, .int .u8 f, .int .u32 k] 38)).heap.size = w.heap.size + 1 := by simp
  rw [hsO] at hO
  obtain ⟨_, b1, b2, b3⟩ := ok
  simp only at b1 b2 b3
  have d1 : (M.kind c == 11) = true := beq_iff_eq.2 h1
  have HC := hid HC
  clear h1
  obtain ⟨a0, a1, a2, a3, a4⟩ := hA.cells
  obtain ⟨o0, o1, o2, o3, o4⟩ := hO.cells
  go_enter Try.func34, Try.ntmps34
  go_wp2_with fail
  refine (kind_any _ _).mono ?_
  rintro e w1 ⟨rfl, hw1⟩
  subst hw1
  clear a0 a1 a2 a3 a4 o0 o1 o2 o3 o4 hsO
  generalize hW0 : (w.alloc (.cells #[.int .u16 c, .int .u8 t, .int .u8 f, .int .u32 k] 38)).alloc (.cells #[.int .u16 0, .int .u8 0, .int .u8 0, .int .u32 0] 38) = W0 at *
  clear hW0
  obtain ⟨a0, a1, a2, a3, a4⟩ := hA.cells
  obtain ⟨o0, o1, o2, o3, o4⟩ := hO.cells
  go_wp2_with fail
  refine (HC.out _ HB.out).mono ?_
  rintro e w2 ⟨rfl, hb⟩
  replace HB := stp HB hb
  have hA2 := hA.below hb
  have hO2 := hO.below hb
  clear hb hA hO HC a0 a1 a2 a3 a4 o0 o1 o2 o3 o4
  have HN : Hid (w.heap.size + 1 ≠ w.heap.size) := hid (by omega)
  have hO3 := hO2.off (b' := w.heap.size) (j := 3) (v := .int .u32 (r : Int)) HN.out
  have hA3 := hA2.set3 (r : Int)
  obtain ⟨a0, a1, a2, a3, a4⟩ := hA2.cells
  replace HB := hid (HB.out.setCell (p := ⟨w.heap.size, 3, none⟩) (Nat.le_refl _) (.int .u32 (r : Int)))
  obtain ⟨V, hV⟩ : ∃ V, w2.setCell ⟨w.heap.size, 3, none⟩ (.int .u32 (r : Int)) = V := ⟨_, rfl⟩
  rw [hV] at hA3 hO3 HB
  obtain ⟨e0, e1, e2, e3, e4⟩ := hA3.cells
  obtain ⟨o0, o1, o2, o3, o4⟩ := hO3.cells
  go_wp2
  refine bodyPost_ret (results_cell4 (c := c) (t := t) (f := f) (k := (r : Int)) rfl _ _ rfl (hO3.put c t f (r : Int))) rfl ?_
  exact ⟨rfl, put_below HB.out (by omega)⟩

set_option maxHeartbeats 1600000 in
set_option maxRecDepth 1000000 in
theorem cturn_jifS (c t f k : Int) (ok : M.okI (c, t, f, k)) (c1 c2 c3 : Nat) (w : World) (h1 : M.kind c = 12) (r s : Nat) (hr : r < 256) (hs : s < 256) (HC : ∀ W, Below w.heap.size w W → Calls Try.prog 45 #[.int .i64 t, .pointer (some ⟨c1, 0, none⟩), .pointer (some ⟨c2, 0, none⟩), .pointer (some ⟨c3, 0, none⟩)] W fun e w' => e = .returned (.int .i64 (r : Int)) ∧ Below W.heap.size W w') (HD : ∀ W, Below w.heap.size w W → Calls Try.prog 45 #[.int .i64 f, .pointer (some ⟨c1, 0, none⟩), .pointer (some ⟨c2, 0, none⟩), .pointer (some ⟨c3, 0, none⟩)] W fun e w' => e = .returned (.int .i64 (s : Int)) ∧ Below W.heap.size W w') :
    Calls Try.prog 34 #[.agg #[.int .u16 c, .int .u8 t, .int .u8 f, .int .u32 k], .func (.func 45) #[] #[.pointer (some ⟨c1, 0, none⟩), .pointer (some ⟨c2, 0, none⟩), .pointer (some ⟨c3, 0, none⟩)]] w fun e w' => e = .returned (.agg #[.int .u16 c, .int .u8 (r : Int), .int .u8 (s : Int), .int .u32 k]) ∧ Below w.heap.size w w' := by
  have hA := ((At.new w c t f k).alloc (.cells #[.int .u16 0, .int .u8 0, .int .u8 0, .int .u32 0] 38))
  have hO := At.new (w.alloc (.cells #[.int .u16 c, .int .u8 t, .int .u8 f, .int .u32 k] 38)) 0 0 0 0
  have HB := hid ((al w (.cells #[.int .u16 c, .int .u8 t, .int .u8 f, .int .u32 k] 38)).trans ((al _ (.cells #[.int .u16 0, .int .u8 0, .int .u8 0, .int .u32 0] 38)).mono (al _ _).size))
  have hsO : (w.alloc (.cells #[.int .u16 c, .int .u8 t, .int .u8 f, .int .u32 k] 38)).heap.size = w.heap.size + 1 := by simp
  rw [hsO] at hO
  obtain ⟨_, b1, b2, b3⟩ := ok
  simp only at b1 b2 b3
  have d1 : (M.kind c == 11) = false := beq_eq_false_iff_ne.2 (by omega)
  have d2 : (M.kind c == 12) = true := beq_iff_eq.2 h1
  have HC := hid HC
  have HD := hid HD
  have z1 : IntKind.u8.wrap (r : Int) = (r : Int) := Go.IntWalk.u8_in _ (by omega)
  have z2 : IntKind.u8.wrap (s : Int) = (s : Int) := Go.IntWalk.u8_in _ (by omega)
  have z3 : IntKind.i64.wrap t = t := Go.IntWalk.i64_in _ (by omega)
  have z4 : IntKind.i64.wrap f = f := Go.IntWalk.i64_in _ (by omega)
  have HN := hid (show w.heap.size + 1 ≠ w.heap.size by omega)
  clear h1
  obtain ⟨a0, a1, a2, a3, a4⟩ := hA.cells
  obtain ⟨o0, o1, o2, o3, o4⟩ := hO.cells
  go_enter Try.func34, Try.ntmps34
  go_wp2_with fail
  refine (kind_any _ _).mono ?_
  rintro e w1 ⟨rfl, hw1⟩
  subst hw1
  clear a0 a1 a2 a3 a4 o0 o1 o2 o3 o4 hsO
  generalize hW0 : (w.alloc (.cells #[.int .u16 c, .int .u8 t, .int .u8 f, .int .u32 k] 38)).alloc (.cells #[.int .u16 0, .int .u8 0, .int .u8 0, .int .u32 0] 38) = W0 at *
  clear hW0
  obtain ⟨a0, a1, a2, a3, a4⟩ := hA.cells
  obtain ⟨o0, o1, o2, o3, o4⟩ := hO.cells
  go_wp2
  clear a0 a1 a2 a3 a4 o0 o1 o2 o3 o4
  have hd := (Below.refl W0.heap.size W0).drew
  replace hA := hA.below hd
  replace hO := hO.below hd
  replace HB := stp HB hd
  obtain ⟨a0, a1, a2, a3, a4⟩ := hA.cells
  clear hd b1 b2 b3 hr hs
  go_region_with (first
    | (go_at_call_of 45 (Value.int IntKind.i64 t); refine (HC.out _ HB.out).mono ?_; rintro e w2 ⟨rfl, hb⟩; clear a0 a1 a2 a3 a4; replace HB := stp HB hb; replace hA := hA.below hb; replace hO := hO.below hb; clear hb; obtain ⟨a0, a1, a2, a3, a4⟩ := hA.cells)
    | (go_at_call_of 45 (Value.int IntKind.i64 f); refine (HD.out _ HB.out).mono ?_; rintro e w2 ⟨rfl, hb⟩; clear a0 a1 a2 a3 a4; replace HB := stp HB hb; replace hA := hA.below hb; replace hO := hO.below hb; clear hb; obtain ⟨a0, a1, a2, a3, a4⟩ := hA.cells))
  all_goals
    rename_i w3
    have hA3 := (hA.set1 (r : Int)).set2 (s : Int)
    have hO3 := (hO.off (b' := w.heap.size) (j := 1) (v := .int .u8 (r : Int)) HN.out).off (b' := w.heap.size) (j := 2) (v := .int .u8 (s : Int)) HN.out
    replace HB := hid ((HB.out.setCell (p := ⟨w.heap.size, 1, none⟩) (Nat.le_refl _) (.int .u8 (r : Int))).setCell (p := ⟨w.heap.size, 2, none⟩) (Nat.le_refl _) (.int .u8 (s : Int)))
    clear a0 a1 a2 a3 a4 hA hO HC HD
    generalize (w3.setCell ⟨w.heap.size, 1, none⟩ (.int .u8 (r : Int))).setCell ⟨w.heap.size, 2, none⟩ (.int .u8 (s : Int)) = V at *
    obtain ⟨e0, e1, e2, e3, e4⟩ := hA3.cells
    obtain ⟨o0, o1, o2, o3, o4⟩ := hO3.cells
    go_wp2
    refine bodyPost_ret (results_cell4 (c := c) (t := (r : Int)) (f := (s : Int)) (k := k) rfl _ _ rfl (hO3.put c (r : Int) (s : Int) k)) rfl ?_
    exact ⟨rfl, put_below HB.out (by omega)⟩

set_option maxHeartbeats 1600000 in
set_option maxRecDepth 1000000 in
theorem cturn_noR (c t f k : Int) (ok : M.okI (c, t, f, k)) (c1 c2 : Nat) (w : World) (h1 : M.kind c ≠ 11) (h2 : M.kind c ≠ 12) :
    Calls Try.prog 34 #[.agg #[.int .u16 c, .int .u8 t, .int .u8 f, .int .u32 k], .func (.func 35) #[] #[.pointer (some ⟨c1, 0, none⟩), .pointer (some ⟨c2, 0, none⟩)]] w fun e w' => e = .returned (.agg #[.int .u16 c, .int .u8 t, .int .u8 f, .int .u32 k]) ∧ Below w.heap.size w w' := by
  have hA := ((At.new w c t f k).alloc (.cells #[.int .u16 0, .int .u8 0, .int .u8 0, .int .u32 0] 38))
  have hO := At.new (w.alloc (.cells #[.int .u16 c, .int .u8 t, .int .u8 f, .int .u32 k] 38)) 0 0 0 0
  have HB := hid ((al w (.cells #[.int .u16 c, .int .u8 t, .int .u8 f, .int .u32 k] 38)).trans ((al _ (.cells #[.int .u16 0, .int .u8 0, .int .u8 0, .int .u32 0] 38)).mono (al _ _).size))
  have hsO : (w.alloc (.cells #[.int .u16 c, .int .u8 t, .int .u8 f, .int .u32 k] 38)).heap.size = w.heap.size + 1 := by simp
  rw [hsO] at hO
  obtain ⟨_, b1, b2, b3⟩ := ok
  simp only at b1 b2 b3
  have d1 : (M.kind c == 11) = false := beq_eq_false_iff_ne.2 h1
  have d2 : (M.kind c == 12) = false := beq_eq_false_iff_ne.2 h2
  clear h1 h2
  obtain ⟨a0, a1, a2, a3, a4⟩ := hA.cells
  obtain ⟨o0, o1, o2, o3, o4⟩ := hO.cells
  go_enter Try.func34, Try.ntmps34
  go_wp2_with fail
  refine (kind_any _ _).mono ?_
  rintro e w1 ⟨rfl, hw1⟩
  subst hw1
  clear a0 a1 a2 a3 a4 o0 o1 o2 o3 o4 hsO
  generalize hW0 : (w.alloc (.cells #[.int .u16 c, .int .u8 t, .int .u8 f, .int .u32 k] 38)).alloc (.cells #[.int .u16 0, .int .u8 0, .int .u8 0, .int .u32 0] 38) = W0 at *
  clear hW0
  obtain ⟨a0, a1, a2, a3, a4⟩ := hA.cells
  obtain ⟨o0, o1, o2, o3, o4⟩ := hO.cells
  go_wp2
  refine bodyPost_ret (results_cell4 (c := c) (t := t) (f := f) (k := k) rfl _ _ rfl (hO.put c t f k)) rfl ?_
  exact ⟨rfl, put_below HB.out (by omega)⟩

set_option maxHeartbeats 1600000 in
set_option maxRecDepth 1000000 in
theorem cturn_jaR (c t f k : Int) (ok : M.okI (c, t, f, k)) (c1 c2 : Nat) (w : World) (h1 : M.kind c = 11) (r : Nat) (hr : r < 4294967296) (HC : ∀ W, Below w.heap.size w W → Calls Try.prog 35 #[.int .i64 k, .pointer (some ⟨c1, 0, none⟩), .pointer (some ⟨c2, 0, none⟩)] W fun e w' => e = .returned (.int .i64 (r : Int)) ∧ Below W.heap.size W w') :
    Calls Try.prog 34 #[.agg #[.int .u16 c, .int .u8 t, .int .u8 f, .int .u32 k], .func (.func 35) #[] #[.pointer (some ⟨c1, 0, none⟩), .pointer (some ⟨c2, 0, none⟩)]] w fun e w' => e = .returned (.agg #[.int .u16 c, .int .u8 t, .int .u8 f, .int .u32 (r : Int)]) ∧ Below w.heap.size w w' := by
  have hA := ((At.new w c t f k).alloc (.cells #[.int .u16 0, .int .u8 0, .int .u8 0, .int .u32 0] 38))
  have hO := At.new (w.alloc (.cells #[.int .u16 c, .int .u8 t, .int .u8 f, .int .u32 k] 38)) 0 0 0 0
  have HB := hid ((al w (.cells #[.int .u16 c, .int .u8 t, .int .u8 f, .int .u32 k] 38)).trans ((al _ (.cells #[.int .u16 0, .int .u8 0, .int .u8 0, .int .u32 0] 38)).mono (al _ _).size))
  have hsO : (w.alloc (.cells #[.int .u16 c, .int .u8 t, .int .u8 f, .int .u32 k] 38)).heap.size = w.heap.size + 1 := by simp
  rw [hsO] at hO
  obtain ⟨_, b1, b2, b3⟩ := ok
  simp only at b1 b2 b3
  have d1 : (M.kind c == 11) = true := beq_iff_eq.2 h1
  have HC := hid HC
  clear h1
  obtain ⟨a0, a1, a2, a3, a4⟩ := hA.cells
  obtain ⟨o0, o1, o2, o3, o4⟩ := hO.cells
  go_enter Try.func34, Try.ntmps34
  go_wp2_with fail
  refine (kind_any _ _).mono ?_
  rintro e w1 ⟨rfl, hw1⟩
  subst hw1
  clear a0 a1 a2 a3 a4 o0 o1 o2 o3 o4 hsO
  generalize hW0 : (w.alloc (.cells #[.int .u16 c, .int .u8 t, .int .u8 f, .int .u32 k] 38)).alloc (.cells #[.int .u16 0, .int .u8 0, .int .u8 0, .int .u32 0] 38) = W0 at *
  clear hW0
  obtain ⟨a0, a1, a2, a3, a4⟩ := hA.cells
  obtain ⟨o0, o1, o2, o3, o4⟩ := hO.cells
  go_wp2_with fail
  refine (HC.out _ HB.out).mono ?_
  rintro e w2 ⟨rfl, hb⟩
  replace HB := stp HB hb
  have hA2 := hA.below hb
  have hO2 := hO.below hb
  clear hb hA hO HC a0 a1 a2 a3 a4 o0 o1 o2 o3 o4
  have HN : Hid (w.heap.size + 1 ≠ w.heap.size) := hid (by omega)
  have hO3 := hO2.off (b' := w.heap.size) (j := 3) (v := .int .u32 (r : Int)) HN.out
  have hA3 := hA2.set3 (r : Int)
  obtain ⟨a0, a1, a2, a3, a4⟩ := hA2.cells
  replace HB := hid (HB.out.setCell (p := ⟨w.heap.size, 3, none⟩) (Nat.le_refl _) (.int .u32 (r : Int)))
  obtain ⟨V, hV⟩ : ∃ V, w2.setCell ⟨w.heap.size, 3, none⟩ (.int .u32 (r : Int)) = V := ⟨_, rfl⟩
  rw [hV] at hA3 hO3 HB
  obtain ⟨e0, e1, e2, e3, e4⟩ := hA3.cells
  obtain ⟨o0, o1, o2, o3, o4⟩ := hO3.cells
  go_wp2
  refine bodyPost_ret (results_cell4 (c := c) (t := t) (f := f) (k := (r : Int)) rfl _ _ rfl (hO3.put c t f (r : Int))) rfl ?_
  exact ⟨rfl, put_below HB.out (by omega)⟩

set_option maxHeartbeats 1600000 in
set_option maxRecDepth 1000000 in
theorem cturn_jifR (c t f k : Int) (ok : M.okI (c, t, f, k)) (c1 c2 : Nat) (w : World) (h1 : M.kind c = 12) (r s : Nat) (hr : r < 256) (hs : s < 256) (HC : ∀ W, Below w.heap.size w W → Calls Try.prog 35 #[.int .i64 t, .pointer (some ⟨c1, 0, none⟩), .pointer (some ⟨c2, 0, none⟩)] W fun e w' => e = .returned (.int .i64 (r : Int)) ∧ Below W.heap.size W w') (HD : ∀ W, Below w.heap.size w W → Calls Try.prog 35 #[.int .i64 f, .pointer (some ⟨c1, 0, none⟩), .pointer (some ⟨c2, 0, none⟩)] W fun e w' => e = .returned (.int .i64 (s : Int)) ∧ Below W.heap.size W w') :
    Calls Try.prog 34 #[.agg #[.int .u16 c, .int .u8 t, .int .u8 f, .int .u32 k], .func (.func 35) #[] #[.pointer (some ⟨c1, 0, none⟩), .pointer (some ⟨c2, 0, none⟩)]] w fun e w' => e = .returned (.agg #[.int .u16 c, .int .u8 (r : Int), .int .u8 (s : Int), .int .u32 k]) ∧ Below w.heap.size w w' := by
  have hA := ((At.new w c t f k).alloc (.cells #[.int .u16 0, .int .u8 0, .int .u8 0, .int .u32 0] 38))
  have hO := At.new (w.alloc (.cells #[.int .u16 c, .int .u8 t, .int .u8 f, .int .u32 k] 38)) 0 0 0 0
  have HB := hid ((al w (.cells #[.int .u16 c, .int .u8 t, .int .u8 f, .int .u32 k] 38)).trans ((al _ (.cells #[.int .u16 0, .int .u8 0, .int .u8 0, .int .u32 0] 38)).mono (al _ _).size))
  have hsO : (w.alloc (.cells #[.int .u16 c, .int .u8 t, .int .u8 f, .int .u32 k] 38)).heap.size = w.heap.size + 1 := by simp
  rw [hsO] at hO
  obtain ⟨_, b1, b2, b3⟩ := ok
  simp only at b1 b2 b3
  have d1 : (M.kind c == 11) = false := beq_eq_false_iff_ne.2 (by omega)
  have d2 : (M.kind c == 12) = true := beq_iff_eq.2 h1
  have HC := hid HC
  have HD := hid HD
  have z1 : IntKind.u8.wrap (r : Int) = (r : Int) := Go.IntWalk.u8_in _ (by omega)
  have z2 : IntKind.u8.wrap (s : Int) = (s : Int) := Go.IntWalk.u8_in _ (by omega)
  have z3 : IntKind.i64.wrap t = t := Go.IntWalk.i64_in _ (by omega)
  have z4 : IntKind.i64.wrap f = f := Go.IntWalk.i64_in _ (by omega)
  have HN := hid (show w.heap.size + 1 ≠ w.heap.size by omega)
  clear h1
  obtain ⟨a0, a1, a2, a3, a4⟩ := hA.cells
  obtain ⟨o0, o1, o2, o3, o4⟩ := hO.cells
  go_enter Try.func34, Try.ntmps34
  go_wp2_with fail
  refine (kind_any _ _).mono ?_
  rintro e w1 ⟨rfl, hw1⟩
  subst hw1
  clear a0 a1 a2 a3 a4 o0 o1 o2 o3 o4 hsO
  generalize hW0 : (w.alloc (.cells #[.int .u16 c, .int .u8 t, .int .u8 f, .int .u32 k] 38)).alloc (.cells #[.int .u16 0, .int .u8 0, .int .u8 0, .int .u32 0] 38) = W0 at *
  clear hW0
  obtain ⟨a0, a1, a2, a3, a4⟩ := hA.cells
  obtain ⟨o0, o1, o2, o3, o4⟩ := hO.cells
  go_wp2
  clear a0 a1 a2 a3 a4 o0 o1 o2 o3 o4
  have hd := (Below.refl W0.heap.size W0).drew
  replace hA := hA.below hd
  replace hO := hO.below hd
  replace HB := stp HB hd
  obtain ⟨a0, a1, a2, a3, a4⟩ := hA.cells
  clear hd b1 b2 b3 hr hs
  go_region_with (first
    | (go_at_call_of 35 (Value.int IntKind.i64 t); refine (HC.out _ HB.out).mono ?_; rintro e w2 ⟨rfl, hb⟩; clear a0 a1 a2 a3 a4; replace HB := stp HB hb; replace hA := hA.below hb; replace hO := hO.below hb; clear hb; obtain ⟨a0, a1, a2, a3, a4⟩ := hA.cells)
    | (go_at_call_of 35 (Value.int IntKind.i64 f); refine (HD.out _ HB.out).mono ?_; rintro e w2 ⟨rfl, hb⟩; clear a0 a1 a2 a3 a4; replace HB := stp HB hb; replace hA := hA.below hb; replace hO := hO.below hb; clear hb; obtain ⟨a0, a1, a2, a3, a4⟩ := hA.cells))
  all_goals
    rename_i w3
    have hA3 := (hA.set1 (r : Int)).set2 (s : Int)
    have hO3 := (hO.off (b' := w.heap.size) (j := 1) (v := .int .u8 (r : Int)) HN.out).off (b' := w.heap.size) (j := 2) (v := .int .u8 (s : Int)) HN.out
    replace HB := hid ((HB.out.setCell (p := ⟨w.heap.size, 1, none⟩) (Nat.le_refl _) (.int .u8 (r : Int))).setCell (p := ⟨w.heap.size, 2, none⟩) (Nat.le_refl _) (.int .u8 (s : Int)))
    clear a0 a1 a2 a3 a4 hA hO HC HD
    generalize (w3.setCell ⟨w.heap.size, 1, none⟩ (.int .u8 (r : Int))).setCell ⟨w.heap.size, 2, none⟩ (.int .u8 (s : Int)) = V at *
    obtain ⟨e0, e1, e2, e3, e4⟩ := hA3.cells
    obtain ⟨o0, o1, o2, o3, o4⟩ := hO3.cells
    go_wp2
    refine bodyPost_ret (results_cell4 (c := c) (t := (r : Int)) (f := (s : Int)) (k := k) rfl _ _ rfl (hO3.put c (r : Int) (s : Int) k)) rfl ?_
    exact ⟨rfl, put_below HB.out (by omega)⟩
end Go.Proofs.Ytfmlefadifpocaa.B
