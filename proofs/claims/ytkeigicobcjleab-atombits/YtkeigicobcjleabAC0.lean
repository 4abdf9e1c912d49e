/-
  The program's small functions of layer 13: asks, isPlace, settled, Turned, otherWay, notZero, above, atLeast, as walks over the Go text; a question in a block of its own.
-/
import Derived.Test.YtkeigicobcjleabAtoMath
import Derived.Test.YtkeigicobcjleabTerBase
import Derived.StillTailTactics
import Derived.Test.YtkeigicobcjleabAtoRefA
namespace Go.Proofs.Ytkeigicobcjleab.TB
open Go.ChangeShapes Go.WideShapes Go.ChangeAt Go.RowKit
open Go.Sort hiding Below
set_option linter.unusedVariables false
set_option maxRecDepth 100000
/-- a question, as a value; in a block of its own -/
abbrev quV (o a k : Int) (n : Bool) : Value := .agg #[.int .i64 o, .int .i64 a, .int .u32 k, .bool n]
def QAt (W : World) (b : Nat) (o a k : Int) (n : Bool) : Prop := W.heap[b]? = some (.cells #[.int .i64 o, .int .i64 a, .int .u32 k, .bool n] 69 (0, 0))
theorem QAt.lt {W : World} {b : Nat} {o a k : Int} {n : Bool} (h : QAt W b o a k n) : b < W.heap.size := by
  rcases Nat.lt_or_ge b W.heap.size with h' | h'
  · exact h'
  · unfold QAt at h; rw [Array.getElem?_eq_none h'] at h; cases h
theorem QAt.of_block {W W' : World} {b : Nat} {o a k : Int} {n : Bool} (h : QAt W b o a k n) (hb : W'.heap[b]? = W.heap[b]?) : QAt W' b o a k n := by
  unfold QAt at *
  rw [hb]; exact h
theorem QAt.below {W W' : World} {b : Nat} {o a k : Int} {n : Bool} (h : QAt W b o a k n) (hb : Below W.heap.size W W') : QAt W' b o a k n := h.of_block (hb.block b h.lt)
theorem QAt.cells {W : World} {b : Nat} {o a k : Int} {n : Bool} (h : QAt W b o a k n) : W.cell? ⟨b, 0, none⟩ = some (.int .i64 o) ∧ W.cell? ⟨b, 1, none⟩ = some (.int .i64 a) ∧ W.cell? ⟨b, 2, none⟩ = some (.int .u32 k) ∧ W.cell? ⟨b, 3, none⟩ = some (.bool n) ∧ ∀ j, W.frozen? ⟨b, j, none⟩ = false := by
  unfold QAt at h
  exact ⟨by simp [World.cell?, h], by simp [World.cell?, h], by simp [World.cell?, h], by simp [World.cell?, h], fun j => by simp [World.frozen?, h]⟩
theorem QAt.new (W : World) (o a k : Int) (n : Bool) : QAt (W.alloc (.cells #[.int .i64 o, .int .i64 a, .int .u32 k, .bool n] 69)) W.heap.size o a k n := by
  unfold QAt; exact World.alloc_heap_new W _
theorem QAt.alloc {W : World} {b : Nat} {o a k : Int} {n : Bool} (h : QAt W b o a k n) (x : Obj) : QAt (W.alloc x) b o a k n := h.below (al W x)
theorem QAt.off {W : World} {b b' j : Nat} {o a k : Int} {n : Bool} {v : Value} (h : QAt W b o a k n) (hne : b ≠ b') : QAt (W.setCell ⟨b', j, none⟩ v) b o a k n := by
  unfold QAt at *
  rw [Below.heap_setCell _ _ _ _ hne]; exact h
theorem QAt.set0 {W : World} {b : Nat} {o a k : Int} {n : Bool} (o' : Int) (h : QAt W b o a k n) : QAt (W.setCell ⟨b, 0, none⟩ (.int .i64 o')) b o' a k n := set_cells _ h
theorem QAt.set1 {W : World} {b : Nat} {o a k : Int} {n : Bool} (a' : Int) (h : QAt W b o a k n) : QAt (W.setCell ⟨b, 1, none⟩ (.int .i64 a')) b o a' k n := set_cells _ h
theorem QAt.set2 {W : World} {b : Nat} {o a k : Int} {n : Bool} (k' : Int) (h : QAt W b o a k n) : QAt (W.setCell ⟨b, 2, none⟩ (.int .u32 k')) b o a k' n := set_cells _ h
theorem QAt.set3 {W : World} {b : Nat} {o a k : Int} {n : Bool} (n' : Bool) (h : QAt W b o a k n) : QAt (W.setCell ⟨b, 3, none⟩ (.bool n')) b o a k n' := set_cells _ h
def qput (W : World) (b : Nat) (o a k : Int) (n : Bool) : World := (((W.setCell ⟨b, 0, none⟩ (.int .i64 o)).setCell ⟨b, 1, none⟩ (.int .i64 a)).setCell ⟨b, 2, none⟩ (.int .u32 k)).setCell ⟨b, 3, none⟩ (.bool n)
theorem QAt.put {W : World} {b : Nat} {o a k : Int} {n : Bool} (o' a' k' : Int) (n' : Bool) (h : QAt W b o a k n) : QAt (qput W b o' a' k' n') b o' a' k' n' := (((h.set0 o').set1 a').set2 k').set3 n'
theorem qput_below {w W : World} {b : Nat} {o a k : Int} {n : Bool} (h : Below w.heap.size w W) (hb : w.heap.size ≤ b) : Below w.heap.size w (qput W b o a k n) :=
  (((h.setCell hb _).setCell hb _).setCell hb _).setCell hb _
theorem results_qu {fn : Func} {p : Tmp} (h : fn.results = #[.cell p 69]) (tmps : Array Value) (w : World) {b : Nat} {o a k : Int} {n : Bool} (hp : tmps[p]?.getD undef = .pointer (some ⟨b, 0, none⟩)) (hA : QAt w b o a k n) :
    (results fn tmps).run Try.prog w = .ok (quV o a k n) w := by
  obtain ⟨a0, a1, a2, a3, a4⟩ := hA.cells
  simp [results, h, hp, go_sem, a0, a1, a2, a3]
theorem results_qu2 {fn : Func} {p u : Tmp} (h : fn.results = #[.cell p 69, .tmp u]) (tmps : Array Value) (w : World) {b : Nat} {o a k : Int} {n : Bool} (hp : tmps[p]?.getD undef = .pointer (some ⟨b, 0, none⟩)) (hA : QAt w b o a k n) :
    (results fn tmps).run Try.prog w = .ok (.tuple #[quV o a k n, tmps[u]?.getD undef]) w := by
  obtain ⟨a0, a1, a2, a3, a4⟩ := hA.cells
  simp [results, h, hp, go_sem, a0, a1, a2, a3]

theorem casks (op : Int) (w : World) : Calls Try.prog 25 #[.int .i64 op] w fun e w' => e = .returned (.bool (TM.isQ op)) ∧ w' = w := by
  by_cases h1 : op = 16
  · subst h1
    go_enter Try.func25, Try.ntmps25
    go_wp2
    go_ret
    exact ⟨rfl, rfl⟩
  by_cases h2 : op = 32
  · subst h2
    go_enter Try.func25, Try.ntmps25
    go_wp2
    go_ret
    exact ⟨rfl, rfl⟩
  by_cases h3 : op = 48
  · subst h3
    go_enter Try.func25, Try.ntmps25
    go_wp2
    go_ret
    exact ⟨rfl, rfl⟩
  by_cases h4 : op = 64
  · subst h4
    go_enter Try.func25, Try.ntmps25
    go_wp2
    go_ret
    exact ⟨rfl, rfl⟩
  have c1 : (op == 16) = false := by simp [h1]
  have c2 : (op == 32) = false := by simp [h2]
  have c3 : (op == 48) = false := by simp [h3]
  have c4 : (op == 64) = false := by simp [h4]
  rw [show TM.isQ op = false by unfold TM.isQ; rw [c1, c2, c3, c4]; rfl]
  clear h1 h2 h3 h4
  go_enter Try.func25, Try.ntmps25
  go_wp2
  go_ret
  exact ⟨rfl, rfl⟩
theorem cplace (A : Option Addr) (n cap : Nat) (a : Int) (w : World) : Calls Try.prog 35 #[.slice A n cap, .int .i64 a] w fun e w' => e = .returned (.bool (decide (0 ≤ a) && decide (a < (n : Int)))) ∧ w' = w := by
  cases h : decide (0 ≤ a)
  all_goals
    go_enter Try.func35, Try.ntmps35
    go_wp2
    go_ret
    exact ⟨rfl, rfl⟩
theorem csettled (so n : Bool) (w : World) : Calls Try.prog 41 #[.bool so, .bool n] w fun e w' => e = .returned (.int .i64 (((TM.knB so n).1 : Nat) : Int)) ∧ w' = w := by
  cases so <;> cases n
  all_goals
    go_enter Try.func41, Try.ntmps41
    go_wp2
    go_ret
    exact ⟨rfl, rfl⟩
end Go.Proofs.Ytkeigicobcjleab.TB
namespace Go.Proofs.Ytkeigicobcjleab.TB
open Go.ChangeShapes Go.WideShapes Go.ChangeAt Go.RowKit
open Go.Sort hiding Below
set_option linter.unusedVariables false
set_option maxRecDepth 100000
theorem qu_new2 (w : World) (o a k : Int) (n : Bool) (o2 a2 k2 : Int) (n2 : Bool) : QAt ((w.alloc (.cells #[.int .i64 o, .int .i64 a, .int .u32 k, .bool n] 69)).alloc (.cells #[.int .i64 o2, .int .i64 a2, .int .u32 k2, .bool n2] 69)) (w.heap.size + 1) o2 a2 k2 n2 := by
  have h := QAt.new (w.alloc (.cells #[.int .i64 o, .int .i64 a, .int .u32 k, .bool n] 69)) o2 a2 k2 n2
  rwa [show (w.alloc (.cells #[.int .i64 o, .int .i64 a, .int .u32 k, .bool n] 69)).heap.size = w.heap.size + 1 by simp] at h
theorem bdrewD {B : Nat} {W W' : World} (h : Below B W W') : Below B W W'.drew := h.trans (Below.refl _ _).drew
theorem al_al (w : World) (x y : Obj) : Below w.heap.size w ((w.alloc x).alloc y) := (al w x).trans ((al _ y).mono (al w x).size)

set_option maxHeartbeats 1600000 in
theorem cnotZero (o a k : Int) (n : Bool) (w : World) : Calls Try.prog 55 #[quV o a k n] w fun e w' => e = .returned (quV 16 a 0 (!n)) ∧ Below w.heap.size w w' := by
  go_enter Try.func55, Try.ntmps55
  go_wp2
  refine bodyPost_ret (results_qu (p := 2) rfl _ _ rfl (qu_new2 w o a k n 16 a 0 (!n))) rfl ?_
  exact ⟨rfl, al_al w _ _⟩
theorem results_atom1 {fn : Func} {p : Tmp} (h : fn.results = #[.cell p 31]) (tmps : Array Value) (w : World) {b c : Nat} {o x y : Int} {n : Bool} (hp : tmps[p]?.getD undef = .pointer (some ⟨c, 0, none⟩)) (hA : w.heap[b]? = some (.cells #[.int .i64 o, .int .i64 x, .int .i64 y, .bool n] 31 (0, 0))) (hc : b = c) :
    (results fn tmps).run Try.prog w = .ok (.agg #[.int .i64 o, .int .i64 x, .int .i64 y, .bool n]) w := by
  subst hc
  have a0 : w.cell? ⟨b, 0, none⟩ = some (.int .i64 o) := by simp [World.cell?, hA]
  have a1 : w.cell? ⟨b, 1, none⟩ = some (.int .i64 x) := by simp [World.cell?, hA]
  have a2 : w.cell? ⟨b, 2, none⟩ = some (.int .i64 y) := by simp [World.cell?, hA]
  have a3 : w.cell? ⟨b, 3, none⟩ = some (.bool n) := by simp [World.cell?, hA]
  simp [results, h, hp, go_sem, a0, a1, a2, a3]
set_option maxHeartbeats 1600000 in
theorem cturned (W : World) (o a b : Int) (nt : Bool) : Calls Try.prog 19 #[.agg #[.int .i64 o, .int .i64 a, .int .i64 b, .bool nt]] W fun e w' => e = .returned (.agg #[.int .i64 o, .int .i64 a, .int .i64 b, .bool (!nt)]) ∧ Below W.heap.size W w' := by
  go_enter Try.func19, Try.ntmps19
  go_wp2
  refine bodyPost_ret (results_atom1 (p := 2) (o := o) (x := a) (y := b) (n := !nt) rfl _ _ rfl (World.alloc_heap_new _ _) (by simp)) rfl ?_
  exact ⟨rfl, al_al W _ _⟩
set_option maxHeartbeats 1600000 in
theorem cotherWay (op a k : Int) (n : Bool) (w : World) : Calls Try.prog 27 #[.int .i64 op, .int .i64 a, .int .u32 k, .bool n] w fun e w' => e = .returned (quV (if op = 32 then 48 else if op = 48 then 32 else op) a k (if op = 32 ∨ op = 48 then !n else n)) ∧ Below w.heap.size w w' := by
  by_cases h1 : op = 32
  · subst h1
    go_enter Try.func27, Try.ntmps27
    go_wp2
    refine bodyPost_ret (results_qu (p := 8) rfl _ _ rfl (QAt.new w 48 a k (!n))) rfl ?_
    exact ⟨rfl, al w _⟩
  by_cases h2 : op = 48
  · subst h2
    go_enter Try.func27, Try.ntmps27
    go_wp2
    refine bodyPost_ret (results_qu (p := 8) rfl _ _ rfl (QAt.new w 32 a k (!n))) rfl ?_
    exact ⟨rfl, al w _⟩
  rw [if_neg h1, if_neg h2, if_neg (by omega)]
  have c1 : (op == 32) = false := by simp [h1]
  have c2 : (op == 48) = false := by simp [h2]
  clear h1 h2
  go_enter Try.func27, Try.ntmps27
  go_wp2
  refine bodyPost_ret (results_qu (p := 8) rfl _ _ rfl (QAt.new w op a k n)) rfl ?_
  exact ⟨rfl, al w _⟩
/-- what a rule tells of a question: it is known, or another one, or the same -/
def quE (o a k : Int) (n : Bool) (kn : Int) : Ending := .returned (.tuple #[quV o a k n, .int .i64 kn])
set_option maxHeartbeats 3200000 in
theorem cabove1 (a : Int) (n : Bool) (w : World) : Calls Try.prog 48 #[quV 32 a 4294967295 n] w fun e w' =>
    e = quE 32 a 4294967295 n (((TM.knB false n).1 : Nat) : Int) ∧ Below w.heap.size w w' := by
  have HS := hid (fun w => csettled false n w)
  go_enter Try.func48, Try.ntmps48
  go_wp2
  go_region_with (go_at_call 41; refine (HS.out _).mono ?_; rintro e w1 ⟨rfl, rfl⟩)
  all_goals
    go_wp2
    refine bodyPost_ret (results_qu2 (p := 2) (u := 3) rfl _ _ rfl (qu_new2 w 32 a 4294967295 n 32 a 4294967295 n)) rfl ?_
    exact ⟨rfl, bdrewD (al_al w _ _)⟩
set_option maxHeartbeats 3200000 in
theorem cabove2 (a : Int) (n : Bool) (w : World) : Calls Try.prog 48 #[quV 32 a 0 n] w fun e w' => e = quE 16 a 0 (!n) 1 ∧ Below w.heap.size w w' := by
  have HN := hid (fun w => cnotZero 32 a 0 n w)
  have HQ := hid (qu_new2 w 32 a 0 n 0 0 0 false)
  have HB := hid (al_al w (.cells #[.int .i64 32, .int .i64 a, .int .u32 0, .bool n] 69) (.cells #[.int .i64 0, .int .i64 0, .int .u32 0, .bool false] 69))
  go_enter Try.func48, Try.ntmps48
  go_wp2_with (go_at_call 55; refine (HN.out _).mono ?_; clear HN; rintro e w1 ⟨rfl, hb⟩; have HB2 := stp HB hb; have HQ2 := hid (HQ.out.below hb); clear hb HB HQ; obtain ⟨q0, q1, q2, q3, qf⟩ := HQ2.out.cells)
  have hZ := HQ2.out.put 16 a 0 (!n)
  have hY := qput_below (o := 16) (a := a) (k := 0) (n := !n) HB2.out (Nat.le_succ _)
  unfold qput at hZ hY
  refine bodyPost_ret (results_qu2 (p := 2) (u := 3) rfl _ _ rfl hZ) rfl ?_
  exact ⟨rfl, hY⟩
set_option maxHeartbeats 3200000 in
theorem cabove3 (a k : Int) (n : Bool) (h1 : k ≠ 4294967295) (h2 : k ≠ 0) (w : World) : Calls Try.prog 48 #[quV 32 a k n] w fun e w' => e = quE 32 a k n 1 ∧ Below w.heap.size w w' := by
  have c1 : (k == 4294967295) = false := by simp [h1]
  have c2 : (k == 0) = false := by simp [h2]
  clear h1 h2
  go_enter Try.func48, Try.ntmps48
  go_wp2
  refine bodyPost_ret (results_qu2 (p := 2) (u := 3) rfl _ _ rfl (qu_new2 w 32 a k n 32 a k n)) rfl ?_
  exact ⟨rfl, al_al w _ _⟩
set_option maxHeartbeats 3200000 in
theorem cleast1 (a : Int) (n : Bool) (w : World) : Calls Try.prog 49 #[quV 48 a 0 n] w fun e w' =>
    e = quE 48 a 0 n (((TM.knB true n).1 : Nat) : Int) ∧ Below w.heap.size w w' := by
  have HS := hid (fun w => csettled true n w)
  go_enter Try.func49, Try.ntmps49
  go_wp2
  go_region_with (go_at_call 41; refine (HS.out _).mono ?_; rintro e w1 ⟨rfl, rfl⟩)
  all_goals
    go_wp2
    refine bodyPost_ret (results_qu2 (p := 2) (u := 3) rfl _ _ rfl (qu_new2 w 48 a 0 n 48 a 0 n)) rfl ?_
    exact ⟨rfl, bdrewD (al_al w _ _)⟩
set_option maxHeartbeats 3200000 in
theorem cleast2 (a k : Int) (n : Bool) (hk : TM.W32 k) (h2 : k ≠ 0) (w : World) : Calls Try.prog 49 #[quV 48 a k n] w fun e w' => e = quE 32 a (k - 1) n 1 ∧ Below w.heap.size w w' := by
  have c2 : (k == 0) = false := by simp [h2]
  have hw : IntKind.u32.wrap (k - 1) = k - 1 := Go.IntWalk.u32_in _ (by have := hk.1; have := hk.2; omega)
  clear hk h2
  go_enter Try.func49, Try.ntmps49
  go_wp2
  refine bodyPost_ret (results_qu2 (p := 2) (u := 3) rfl _ _ rfl (qu_new2 w 32 a (k - 1) n 32 a (k - 1) n)) rfl ?_
  exact ⟨rfl, al_al w _ _⟩
end Go.Proofs.Ytkeigicobcjleab.TB
namespace Go.Proofs.Ytkeigicobcjleab.TM
set_option linter.unusedVariables false
set_option maxRecDepth 100000
/-- what a question comes to -/
def ofQ (op : Int) (t : Tr) (k : Int) (n : Bool) : At := match nmT t with
  | some i => knB (WM.ask op i k) n
  | none => numA op t k n
theorem ofQ_num {t : Tr} {i : Int} (h : nmT t = some i) (op k : Int) (n : Bool) : ofQ op t k n = knB (WM.ask op i k) n := by unfold ofQ; rw [h]
theorem ofQ_none {t : Tr} (h : nmT t = none) (op k : Int) (n : Bool) : ofQ op t k n = numA op t k n := by unfold ofQ; rw [h]
theorem ofQ_set (t : Tr) (k : Int) (n : Bool) : ofQ 64 t k n = csetT t k n := by
  cases h : nmT t with
  | some i => rw [ofQ_num h, nmT_some h, csetT]
  | none => rw [ofQ_none h]; rfl
theorem ofQ_eq (t : Tr) (k : Int) (n : Bool) : ofQ 16 t k n = ceqT t k n := by
  cases h : nmT t with
  | some i => rw [ofQ_num h, nmT_some h, ceqT]; rfl
  | none => rw [ofQ_none h]; rfl
theorem chn_80 {t x : Tr} {j : Int} (h : chn 80 t = some (x, j)) : t = op2 80 x (.num j) := (chn_sz h).2.1
theorem cset_chn {t x : Tr} {j : Int} (h : chn 80 t = some (x, j)) (k : Int) (n : Bool) : csetT t k n = if k = 0 then knB false n else if k = 4294967295 then csetT x j n else csetT x (told 80 j k) n := by
  rw [chn_80 h, csetT]
  simp only [if_true]
theorem ceq_chn {t x : Tr} {j : Int} (h : chn 80 t = some (x, j)) (k : Int) (n : Bool) : ceqT t k n = if told 80 j k ≠ k then knB false n else if k = 0 then csetT x j (!n) else opA 16 t (.num k) n := by
  rw [chn_80 h, ceqT]
  simp only [if_true]
theorem no_chn {t : Tr} (h : chn 80 t = none) {x : Tr} {j : Int} {o : Int} (e : t = .mulL o (.add x (.num j))) : o ≠ 80 := by
  intro e2
  subst e e2
  rw [chn, if_pos (by decide)] at h
  cases h
theorem cset_no {t : Tr} (h : chn 80 t = none) (hn : nmT t = none) (k : Int) (n : Bool) : csetT t k n = if k = 0 then knB false n else if k = 4294967295 then opA 16 t (.num 0) (!n) else opA 64 t (.num k) n := by
  cases t, k, n using csetT.fun_cases with
  | case1 i k n => cases hn
  | case2 o x j n => rw [csetT]; simp only [if_true]
  | case3 x j n h1 => exact absurd rfl (no_chn h rfl)
  | case4 o x j n h1 h2 => rw [csetT]; simp only [if_neg h1, if_neg h2, if_true]
  | case5 x j k n h1 h2 => exact absurd rfl (no_chn h rfl)
  | case6 o x j k n h1 h2 h3 => rw [csetT]; simp only [if_neg h1, if_neg h2, if_neg h3]
  | case7 t n h1 h2 =>
    rw [csetT]
    · exact h1
    · exact h2
  | case8 t n h1 h2 h3 =>
    rw [csetT]
    · exact h1
    · exact h2
  | case9 t k n h1 h2 h3 h4 =>
    rw [csetT]
    · exact h1
    · exact h2
theorem ceq_no {t : Tr} (h : chn 80 t = none) (hn : nmT t = none) (k : Int) (n : Bool) : ceqT t k n = opA 16 t (.num k) n := by
  cases t, k, n using ceqT.fun_cases with
  | case1 i k n => cases hn
  | case2 x j k n h1 => exact absurd rfl (no_chn h rfl)
  | case3 x j n h1 => exact absurd rfl (no_chn h rfl)
  | case4 x j k n h1 h2 => exact absurd rfl (no_chn h rfl)
  | case5 o x j k n h1 => rw [ceqT, if_neg h1]
  | case6 t k n h1 h2 => rw [ceqT] <;> first | exact h1 | exact h2
theorem ceq_zero {t : Tr} (ho : okT t) (hn : nmT t = none) (n : Bool) : ceqT t 0 (!n) = csetT t 4294967295 n := by
  cases h : chn 80 t with
  | none => rw [ceq_no h hn, cset_no h hn, if_neg (by omega), if_pos rfl]
  | some y =>
    obtain ⟨x, j⟩ := y
    have hj : W32 j := by
      rw [chn_80 h, okT] at ho
      have := ho.2.2.2
      rw [okT] at this
      exact this
    rw [ceq_chn h, cset_chn h, told80_0 hj]
    simp
/-- what the first rule that fits tells: it is known (2, 3), or another question -/
abbrev Qu := Int × Nat × Int × Bool
/-- the steps, of a term that is no number -/
theorem step32 {t : Tr} (hn : nmT t = none) (k : Int) (n : Bool) : ofQ 32 t k n = if k = 4294967295 then knB false n else if k = 0 then ofQ 16 t 0 (!n) else opA 32 t (.num k) n := by
  rw [ofQ_none hn, ofQ_eq]; rfl
theorem step48 {t : Tr} (hn : nmT t = none) (k : Int) (n : Bool) : ofQ 48 t k n = if k = 0 then knB true n else ofQ 32 t (k - 1) n := by
  rw [ofQ_none hn, ofQ_none hn]; rfl
theorem step64 {t : Tr} (ho : okT t) (hn : nmT t = none) (k : Int) (n : Bool) : ofQ 64 t k n = if k = 0 then knB false n else if k = 4294967295 then ofQ 16 t 0 (!n) else match chn 80 t with
    | some (x, j) => ofQ 64 x (told 80 j k) n
    | none => opA 64 t (.num k) n := by
  rw [ofQ_set, ofQ_eq]
  cases h : chn 80 t with
  | none =>
    rw [cset_no h hn]
    by_cases h1 : k = 0
    · rw [if_pos h1, if_pos h1]
    · rw [if_neg h1, if_neg h1]
      by_cases h2 : k = 4294967295
      · rw [if_pos h2, if_pos h2, ceq_no h hn]
      · rw [if_neg h2, if_neg h2]
  | some y =>
    obtain ⟨x, j⟩ := y
    by_cases h1 : k = 0
    · rw [cset_chn h, if_pos h1, if_pos h1]
    · rw [if_neg h1]
      by_cases h2 : k = 4294967295
      · subst h2
        rw [if_pos rfl, ceq_zero ho hn]
      · rw [if_neg h2, cset_chn h, if_neg h1, if_neg h2]
        simp only
        rw [ofQ_set]
theorem step16 {t : Tr} (hn : nmT t = none) (k : Int) (n : Bool) : ofQ 16 t k n = match chn 80 t with
    | some (x, j) => if told 80 j k ≠ k then knB false n else if k = 0 then ofQ 64 x j (!n) else opA 16 t (.num k) n
    | none => opA 16 t (.num k) n := by
  rw [ofQ_eq]
  cases h : chn 80 t with
  | none => rw [ceq_no h hn]
  | some y =>
    obtain ⟨x, j⟩ := y
    rw [ceq_chn h]
    simp only
    rw [ofQ_set]
/-- made of two terms, by the second one's number, by the first one's, of one term, of two -/
theorem mkA_b {t : Tr} {j : Int} (h : nmT t = some j) (op : Int) (s : Tr) (n : Bool) : mkA op s t n = ofQ op s j n := by
  unfold mkA
  cases hs : nmT s with
  | some i => rw [ofQ_num hs, h]
  | none => rw [ofQ_none hs, h]
theorem mkA_a {s t : Tr} {i : Int} (hs : nmT s = some i) (ht : nmT t = none) (op : Int) (n : Bool) : mkA op s t n = if op = 32 then ofQ 48 t i (!n) else if op = 48 then ofQ 32 t i (!n) else ofQ op t i n := by
  rw [ofQ_none ht, ofQ_none ht, ofQ_none ht]
  unfold mkA
  rw [hs, ht]
theorem mkA_one {s : Tr} (hs : nmT s = none) (op : Int) (n : Bool) : mkA op s s n = if op = 64 then ofQ 16 s 0 (!n) else knB (op != 32) n := by
  rw [ofQ_eq]
  unfold mkA
  rw [hs]
  simp only
  rw [if_pos (eqT_iff.2 rfl)]
theorem mkA_two {s t : Tr} (hs : nmT s = none) (ht : nmT t = none) (h : s ≠ t) (op : Int) (n : Bool) : mkA op s t n = opA op s t n := by
  unfold mkA
  rw [hs, ht]
  simp only
  rw [if_neg (fun e => h (eqT_iff.1 e))]
/-- how far a question is from its end -/
def rankQ (op : Int) (a : Nat) : Nat := 4 * a + (if op = 48 then 3 else if op = 32 then 2 else if op = 64 then 1 else 0)
/-- the number to whose bits a row's node cuts a term -/
def cutN (L : List N) (a : Nat) : Option (Nat × Int) := if (nat0 L a).1 = 336 ∧ (nat0 L (nat0 L a).2.2.1.toNat).1 = 1 then some ((nat0 L a).2.1.toNat, (nat0 L (nat0 L a).2.2.1.toNat).2.2.2) else none
theorem cut_chn {L : List N} (hl : Row L) {a : Nat} (ha : a < L.length) : chn 80 (tr L a) = (cutN L a).map (fun y => (tr L y.1, y.2)) := by
  rw [chn_row hl ha (by omega)]
  unfold cutN
  rw [show trn 80 = true by decide, show (256 + 80 : Int) = 336 from rfl]
  by_cases g : (nat0 L a).1 = 336 ∧ (nat0 L (nat0 L a).2.2.1.toNat).1 = 1
  · rw [if_pos g, if_pos ⟨rfl, g⟩]; rfl
  · rw [if_neg g, if_neg (fun e => g e.2)]; rfl
theorem cut_lt {L : List N} (hl : Row L) (ok : ∀ x ∈ L, okN x) {a : Nat} (ha : a < L.length) {x : Nat} {j : Int} (h : cutN L a = some (x, j)) : x < a ∧ W32 j := by
  unfold cutN at h
  split at h
  · rename_i g
    injection h with h
    injection h with h1 h2
    have hm := may_ok (hl.2 a ha)
    have hj := nat0_ok ok (nat0 L a).2.2.1.toNat
    have hj2 := hj.2.2.2
    rw [← h1, ← h2]
    refine ⟨by omega, ?_⟩
    unfold W32; exact hj2
  · cases h
end Go.Proofs.Ytkeigicobcjleab.TM
