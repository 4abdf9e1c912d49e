/-
  The library's iterator over nodes from the back on; as walks over the Go text.
-/
import Derived.Test.YtkeigicobcjleabTC0
import Derived.Test.YtkeigicobcjleabTerLawO
import Derived.RangeFuncNested
import Derived.RangeFuncBound
import Derived.RangeFuncCalls
import Derived.RangeFuncLeaves
import Derived.Shelf.Abstract
import Derived.Shelf.RegionOpen
import Derived.WalkKit
import Derived.OwnWalkIn
import Derived.TacticsInMore
import Derived.LoopNIn
import Derived.LoopIn
import Derived.Test.YtkeigicobcjleabT2
import Derived.Test.YtkeigicobcjleabT1
import Derived.Test.YtkeigicobcjleabTerPool
import Derived.Test.YtkeigicobcjleabT3
import Derived.Maps.Own
import Derived.Maps.OwnOps
import Derived.Maps.OwnSet
import Derived.Maps.Views
import Derived.DeepKeys4
import Derived.LaidMore
import Derived.WalkSpells
namespace Go.Proofs.Ytkeigicobcjleab.TB
open Go.ChangeShapes Go.WideShapes Go.ChangeAt Go.RowKit Go.Shelf
open Go.Sort hiding Below
set_option linter.unusedVariables false
set_option maxRecDepth 100000
attribute [local go_sem] Oper.semAt_some

/-- the first q places from the back on -/
def dn (n : Nat) : Nat → List (Fin n)
  | 0 => []
  | q + 1 => dn n q ++ (if h : n - 1 - q < n then [⟨n - 1 - q, h⟩] else [])
theorem dn_succ {n q : Nat} (h : q < n) : dn n (q + 1) = dn n q ++ [⟨n - 1 - q, by omega⟩] := by
  rw [dn, dif_pos (by omega)]
theorem dn_len {n : Nat} : ∀ q, q ≤ n → (dn n q).length = q := by
  intro q
  induction q with
  | zero => intro _; rfl
  | succ q ih => intro h; rw [dn_succ (by omega), List.length_append, ih (by omega)]; rfl
theorem dn_next {n k : Nat} (h : k < n) : dn n (n - k) = dn n (n - (k + 1)) ++ [⟨k, h⟩] := by
  rw [show n - k = n - (k + 1) + 1 by omega, dn_succ (by omega)]
  congr 2
  apply Fin.ext
  show n - 1 - (n - (k + 1)) = k
  omega
/-- what a round keeps: what lay below n₀, and the block Bs -/
structure KpB (n₀ Bs : Nat) (W W' : World) : Prop where
  low : Below n₀ W W'
  at_ : ∀ o, W.heap[Bs]? = some o → W'.heap[Bs]? = some o
theorem KpB.refl (n₀ Bs : Nat) (W : World) : KpB n₀ Bs W W := ⟨Below.refl _ _, fun _ h => h⟩
theorem KpB.trans {n₀ Bs : Nat} {A B C : World} (h : KpB n₀ Bs A B) (h' : KpB n₀ Bs B C) : KpB n₀ Bs A C := ⟨h.low.trans h'.low, fun o e => h'.at_ o (h.at_ o e)⟩
/-- what comes: a place and its node -/
def encB (L : List TM.N) (n : Nat) (x : Fin n) : Array Value := #[.int .i64 (x.1 : Int), .agg #[.int .i64 (TM.nat0 L x.1).1, .int .i64 (TM.nat0 L x.1).2.1, .int .i64 (TM.nat0 L x.1).2.2.1, .int .u32 (TM.nat0 L x.1).2.2.2]]

end Go.Proofs.Ytkeigicobcjleab.TB
namespace Go.Proofs.Ytkeigicobcjleab.TM
set_option linter.unusedVariables false
/-- what is in, behind the places of pre -/
def fdB {n : Nat} (L : List N) (base : Nat → Bool) (pre : List (Fin n)) : Nat → Bool := pre.foldl (fun st x => fun j => st j || (st x.1 && (parts (nat0 L x.1)).contains j)) base
theorem fdB_snoc {n : Nat} (L : List N) (base : Nat → Bool) (pre : List (Fin n)) (x : Fin n) (j : Nat) : fdB L base (pre ++ [x]) j = (fdB L base pre j || (fdB L base pre x.1 && (parts (nat0 L x.1)).contains j)) := by
  unfold fdB; rw [List.foldl_append]; rfl
def baseR (R : List Int) (k : Nat) (j : Nat) : Bool := (R.take k).any fun t => decide (j = t.toNat)
theorem baseR_succ {R : List Int} {k : Nat} (h : k < R.length) (j : Nat) : baseR R (k + 1) j = (baseR R k j || decide (j = R[k].toNat)) := by
  unfold baseR
  rw [List.take_succ_eq_append_getElem h, List.any_append]
  simp
theorem any_or {α : Type} (f g : α → Bool) (l : List α) : (l.any fun x => f x || g x) = (l.any f || l.any g) := by
  induction l with
  | nil => rfl
  | cons a l ih => rw [List.any_cons, List.any_cons, List.any_cons, ih]; cases f a <;> cases g a <;> simp
theorem any_and {α : Type} (f : α → Bool) (c : Bool) (l : List α) : (l.any fun x => f x && c) = (l.any f && c) := by
  induction l with
  | nil => rfl
  | cons a l ih => rw [List.any_cons, List.any_cons, ih]; cases f a <;> cases c <;> simp
theorem fdB_dn {L : List N} (hL : Row L) (R : List Int) : ∀ q, q ≤ L.length → ∀ j, fdB L (baseR R R.length) (TB.dn L.length q) j = R.any fun t => inK L t.toNat (L.length - q) j := by
  intro q
  induction q with
  | zero =>
    intro _ j
    show baseR R R.length j = _
    unfold baseR
    rw [List.take_length]
    refine any_ext fun t _ => ?_
    rw [Nat.sub_zero, inK_end]
  | succ q ih =>
    intro hq j
    have hlt : L.length - (q + 1) < L.length := by omega
    rw [TB.dn_succ (by omega), fdB_snoc, ih (by omega), ih (by omega)]
    show ((R.any fun t => inK L t.toNat (L.length - q) j) || ((R.any fun t => inK L t.toNat (L.length - q) (L.length - 1 - q)) && (parts (nat0 L (L.length - 1 - q))).contains j)) = _
    rw [show L.length - 1 - q = L.length - (q + 1) by omega]
    have e : ∀ t : Int, inK L t.toNat (L.length - (q + 1)) j = (inK L t.toNat (L.length - q) j || (inT L t.toNat (L.length - (q + 1)) && (parts (nat0 L (L.length - (q + 1)))).contains j)) := fun t => by
      rw [inK_succ hlt, show L.length - (q + 1) + 1 = L.length - q by omega]
    have e2 : ∀ t : Int, inK L t.toNat (L.length - q) (L.length - (q + 1)) = inT L t.toNat (L.length - (q + 1)) := fun t => by
      rw [← inK_at L t.toNat (L.length - (q + 1)), show L.length - (q + 1) + 1 = L.length - q by omega]
    rw [any_ext (f := fun t : Int => inK L t.toNat (L.length - (q + 1)) j) (fun t _ => e t), any_or, any_and]
    congr 2
    exact any_ext fun t _ => e2 t
theorem fdB_all {L : List N} (hL : Row L) (R : List Int) (j : Nat) : fdB L (baseR R R.length) (TB.dn L.length L.length) j = inR L R j := by
  rw [fdB_dn hL R L.length (Nat.le_refl _), Nat.sub_self]
  exact any_ext fun t _ => inK_zero hL t.toNat j
end Go.Proofs.Ytkeigicobcjleab.TM
namespace Go.Proofs.Ytkeigicobcjleab.TB
open Go.ChangeShapes Go.WideShapes Go.ChangeAt Go.RowKit Go.Shelf
open Go.Sort hiding Below
set_option linter.unusedVariables false
set_option maxRecDepth 100000
attribute [local go_sem] Oper.semAt_some

theorem wpListIn_make_full {F : Fence} {d : Nat} {P : Program} (w : World) {ops : Array Oper} {rest : List Oper} {o : Oper} {a : Act} {Q : Exit → Act → World → Prop}
    (hg : o.guard = none) (l c : Operand) (t : TypeId) (hop : o.op = Op.makeSlice t l c)
    (base : Nat) (e : TypeId) (i : TypeInfo) (z : Value) (size : Nat) (h1 : P.underlying t = some (.slice e)) (h2 : P.info? e = some i) (h3 : i.zero = some z) (h4 : i.size = size)
    (kl kc : IntKind) (X C : Int) (n : Nat) (hl : a.eval l = .int kl X) (hc : a.eval c = .int kc C) (hL : X = (n : Int)) (hC : C = (n : Int)) (b2 : i.bytes * n ≤ 281474976710656) (b3 : n ≤ maxLen) (b4 : base ≤ w.heap.size)
    (hK : ∀ w', w'.ownsRow base e size (.slice (some ⟨w.heap.size, 0, none⟩) n n) n (madeCells z.cells (n * size)).toList → w.grownBy w' none → wpListIn F d P ops Q rest (a.put o.dst (.slice (some ⟨w.heap.size, 0, none⟩) n n)) w') :
    wpListIn F d P ops Q (o :: rest) a w := by
  refine wpListIn_plain hg fun K hK' => ?_
  obtain ⟨w', hrun, r1, r2⟩ := run_make_full (P := P) w base t e i z size h1 h2 h3 h4 kl kc n b2 b3 b4
  subst hL
  subst hC
  unfold Oper.wpIn
  refine ⟨?_, ?_⟩
  · simp [Oper.about, hop]
  · rw [Oper.semAt_plain F _ _ (by rw [hop]; intro c hc'; cases hc')]
    simp [execOp, hop, hl, hc, hrun, Result.andThen]
    exact hK' _ _ (hK w' r1 r2)

theorem row_own {β : Type} (g n : Nat) (V : β → Nat → Value) : Own (fun s W => Row W g n (V s)) := fun s W W' row hs hg hr =>
  ⟨Nat.lt_of_lt_of_le hs.lt hg.size, fun j hj => cell_kept (hs.cell j hj) hg hr, fun j hj => (frozen_kept (hs.cell j hj) hg hr).trans (hs.froz j hj)⟩
theorem nat_own {β : Type} (b : Nat) (x : β → TM.N) : Own (fun s W => NAt W b (x s)) := fun s W W' row hs hg hr => by
  have e : W'.heap[b]? = W.heap[b]? := grownBy_keeps_cells hg hr hs rfl
  show W'.heap[b]? = _
  rw [e]; exact hs
theorem keepsFrom_of_below {B : Nat} {W W' : World} (h : Below W.heap.size W W') : KeepsFrom B W W' := ⟨h.size, fun k o _ hk _ => (h.block k (Array.getElem?_eq_some_iff.1 hk).1).trans hk⟩
theorem kpB_of_below {n₀ Bs : Nat} {W W' : World} (h : Below W.heap.size W W') (hn : n₀ ≤ W.heap.size) : KpB n₀ Bs W W' := ⟨h.mono hn, fun o ho => (h.block Bs (Array.getElem?_eq_some_iff.1 ho).1).trans ho⟩
theorem kpB_set {n₀ Bs g j : Nat} {W : World} {v : Value} (hn : n₀ ≤ g) (hne : Bs ≠ g) : KpB n₀ Bs W (W.setCell ⟨g, j, none⟩ v) := ⟨(Below.refl _ _).setCell hn _, fun o ho => by rw [Below.heap_setCell _ _ _ _ hne]; exact ho⟩

end Go.Proofs.Ytkeigicobcjleab.TB
namespace Go.Proofs.Ytkeigicobcjleab.TB
open Go.ChangeShapes Go.WideShapes Go.ChangeAt Go.RowKit
open Go.Sort hiding Below
set_option linter.unusedVariables false
set_option maxRecDepth 100000

/-- a node is written over a node -/
def nput (W : World) (b : Nat) (x : TM.N) : World := (((W.setCell ⟨b, 0, none⟩ (.int .i64 x.1)).setCell ⟨b, 1, none⟩ (.int .i64 x.2.1)).setCell ⟨b, 2, none⟩ (.int .i64 x.2.2.1)).setCell ⟨b, 3, none⟩ (.int .u32 x.2.2.2)
theorem NAt.put {W : World} {b : Nat} {y : TM.N} (x : TM.N) (h : NAt W b y) : NAt (nput W b x) b x := by
  have h0 : (W.setCell ⟨b, 0, none⟩ (.int .i64 x.1)).heap[b]? = some (.cells #[.int .i64 x.1, .int .i64 y.2.1, .int .i64 y.2.2.1, .int .u32 y.2.2.2] 28 (0, 0)) := set_cells _ h
  have h1 : ((W.setCell ⟨b, 0, none⟩ (.int .i64 x.1)).setCell ⟨b, 1, none⟩ (.int .i64 x.2.1)).heap[b]? = some (.cells #[.int .i64 x.1, .int .i64 x.2.1, .int .i64 y.2.2.1, .int .u32 y.2.2.2] 28 (0, 0)) := set_cells _ h0
  have h2 : (((W.setCell ⟨b, 0, none⟩ (.int .i64 x.1)).setCell ⟨b, 1, none⟩ (.int .i64 x.2.1)).setCell ⟨b, 2, none⟩ (.int .i64 x.2.2.1)).heap[b]? = some (.cells #[.int .i64 x.1, .int .i64 x.2.1, .int .i64 x.2.2.1, .int .u32 y.2.2.2] 28 (0, 0)) := set_cells _ h1
  exact set_cells _ h2
theorem nput_below {w W : World} {b : Nat} {x : TM.N} (h : Below w.heap.size w W) (hb : w.heap.size ≤ b) : Below w.heap.size w (nput W b x) :=
  (((h.setCell hb _).setCell hb _).setCell hb _).setCell hb _
theorem results_node {fn : Func} {p : Tmp} (h : fn.results = #[.cell p 28]) (tmps : Array Value) (w : World) {b : Nat} {x : TM.N} (hp : tmps[p]?.getD undef = .pointer (some ⟨b, 0, none⟩)) (hA : NAt w b x) :
    (results fn tmps).run Try.prog w = .ok (.agg #[.int .i64 x.1, .int .i64 x.2.1, .int .i64 x.2.2.1, .int .u32 x.2.2.2]) w := by
  obtain ⟨a0, a1, a2, a3, a4⟩ := hA.cells
  simp [results, h, hp, go_sem, a0, a1, a2, a3]
theorem results_node2 {fn : Func} {p u : Tmp} (h : fn.results = #[.cell p 28, .tmp u]) (tmps : Array Value) (w : World) {b : Nat} {x : TM.N} (hp : tmps[p]?.getD undef = .pointer (some ⟨b, 0, none⟩)) (hA : NAt w b x) :
    (results fn tmps).run Try.prog w = .ok (.tuple #[.agg #[.int .i64 x.1, .int .i64 x.2.1, .int .i64 x.2.2.1, .int .u32 x.2.2.2], tmps[u]?.getD undef]) w := by
  obtain ⟨a0, a1, a2, a3, a4⟩ := hA.cells
  simp [results, h, hp, go_sem, a0, a1, a2, a3]
/-- the node's copy, the answer's block, and the row of places -/
structure RnSt (w W : World) (g n : Nat) (V : Nat → Nat) (x y : TM.N) : Prop where
  n1 : NAt W w.heap.size x
  n2 : NAt W (w.heap.size + 1) y
  rw : Row W g n (fun j => .int .i64 ((V j : Nat) : Int))
  lt : g < w.heap.size
  bl : Below w.heap.size w W
theorem RnSt.new {w : World} {g n : Nat} {V : Nat → Nat} (o a b k : Int) (hR : Row w g n (fun j => .int .i64 ((V j : Nat) : Int))) : RnSt w ((w.alloc (.cells #[.int .i64 o, .int .i64 a, .int .i64 b, .int .u32 k] 28)).alloc (.cells #[.int .i64 0, .int .i64 0, .int .i64 0, .int .u32 0] 28)) g n V (o, a, b, k) (0, 0, 0, 0) := by
  have hs : (w.alloc (.cells #[.int .i64 o, .int .i64 a, .int .i64 b, .int .u32 k] 28)).heap.size = w.heap.size + 1 := by simp
  have hN2 := NAt.new (w.alloc (.cells #[.int .i64 o, .int .i64 a, .int .i64 b, .int .u32 k] 28)) 0 0 0 0
  rw [hs] at hN2
  exact ⟨(NAt.new w o a b k).alloc _, hN2, (hR.below (al _ _)).below (al _ _), hR.lt, (stp (al w _) (al _ _)).out⟩
theorem RnSt.below {w W W' : World} {g n : Nat} {V : Nat → Nat} {x y : TM.N} (h : RnSt w W g n V x y) (hb : Below W.heap.size W W') : RnSt w W' g n V x y :=
  ⟨h.n1.below hb, h.n2.below hb, h.rw.below hb, h.lt, h.bl.trans (hb.mono h.bl.size)⟩
theorem RnSt.set1 {w W : World} {g n : Nat} {V : Nat → Nat} {o a b k : Int} {y : TM.N} (h : RnSt w W g n V (o, a, b, k) y) (a' : Int) : RnSt w (W.setCell ⟨w.heap.size, 1, none⟩ (.int .i64 a')) g n V (o, a', b, k) y :=
  ⟨h.n1.set1 a', h.n2.off (by omega), h.rw.other _ _ _ (by have := h.lt; omega), h.lt, h.bl.setCell (Nat.le_refl _) _⟩
theorem RnSt.set2 {w W : World} {g n : Nat} {V : Nat → Nat} {o a b k : Int} {y : TM.N} (h : RnSt w W g n V (o, a, b, k) y) (b' : Int) : RnSt w (W.setCell ⟨w.heap.size, 2, none⟩ (.int .i64 b')) g n V (o, a, b', k) y :=
  ⟨h.n1.set2 b', h.n2.off (by omega), h.rw.other _ _ _ (by have := h.lt; omega), h.lt, h.bl.setCell (Nat.le_refl _) _⟩

end Go.Proofs.Ytkeigicobcjleab.TB
namespace Go.Proofs.Ytkeigicobcjleab.TM
set_option linter.unusedVariables false
theorem fnd_app {L : List N} {x : N} (h : fnd L x = none) : fnd (L ++ [x]) x = some L.length := by
  rw [fnd_some]
  refine ⟨by simp, nat0_last L x, fun j hj => ?_⟩
  rw [nat0_append hj]; exact fnd_none.1 h j hj
theorem fnd_app' {L : List N} {x y : N} (h : y ≠ x) : fnd (L ++ [x]) y = fnd L y := by
  cases e : fnd L y with
  | some i =>
    obtain ⟨h1, h2, h3⟩ := fnd_some.1 e
    rw [fnd_some]
    exact ⟨by simp; omega, by rw [nat0_append h1]; exact h2, fun j hj => by rw [nat0_append (by omega)]; exact h3 j hj⟩
  | none =>
    rw [fnd_none]
    intro i hi
    rw [List.length_append, List.length_singleton] at hi
    by_cases e2 : i = L.length
    · subst e2; rw [nat0_last]; exact fun e3 => h e3.symm
    · rw [nat0_append (by omega)]; exact fnd_none.1 e i (by omega)
end Go.Proofs.Ytkeigicobcjleab.TM
namespace Go.Proofs.Ytkeigicobcjleab.TB
open Go.ChangeShapes Go.WideShapes Go.ChangeAt Go.RowKit Go.Maps
open Go.Sort hiding Below
set_option linter.unusedVariables false
set_option maxRecDepth 100000

theorem laidOutN : laidOutB Try.prog = true := by kernel_rfl
theorem lawN : Keyed Try.prog 28 := Keyed.of_law (deep_law_laid laidOutN (m := 3) (by omega) (of_decide_eq_true (by kernel_rfl)) (by kernel_rfl) (by kernel_rfl))
theorem zeroi (w : World) : (zeroValue 3).run Try.prog w = .ok (.int .i64 0) w := by kernel_rfl
/-- a node as a key -/
abbrev kn (x : TM.N) : Lit := .string (keyBytes [.int .i64 x.1, .int .i64 x.2.1, .int .i64 x.2.2.1, .int .u32 x.2.2.2])
theorem keyTypeN : Try.prog.keyType 28 = true := by kernel_rfl
theorem formedN (a b c d : Value) : (Value.agg #[a, b, c, d]).formed Try.prog 28 = true := by kernel_rfl
theorem sizeN : ∃ m, Try.prog.types.size = m + 1 := ⟨Try.prog.types.size - 1, by have : 0 < Try.prog.types.size := of_decide_eq_true (by kernel_rfl); omega⟩
theorem cellsN4 : Try.prog.cellsOf 28 = 4 := by kernel_rfl
theorem cellsI : Try.prog.cellsOf 3 = 1 := by kernel_rfl
theorem cellsU : Try.prog.cellsOf 22 = 1 := by kernel_rfl
theorem klI (m : Nat) (a : Int) (h : (Lit.int .i64 a).wf = true) : Try.prog.keyLits (m + 1) 3 [.int .i64 a] = some [.int .i64 a] := by
  unfold Program.keyLits; simp [Try.underlying3, h]
theorem klU (m : Nat) (a : Int) (h : (Lit.int .u32 a).wf = true) : Try.prog.keyLits (m + 1) 22 [.int .u32 a] = some [.int .u32 a] := by
  unfold Program.keyLits; simp [Try.underlying22, h]
theorem namesN : (Try.prog.fieldsOf 28).all (fun x => x.name != "_") = true := by kernel_rfl
theorem keyN {x : TM.N} (ok : TM.okN x) : keyOf Try.prog 28 (nv x) = some (kn x) := by
  obtain ⟨h0, h1, h2, h3⟩ := ok
  have w0 : (Lit.int .i64 x.1).wf = true := by simp [Lit.wf, IntKind.min, IntKind.max, IntKind.bits, IntKind.signed]; omega
  have w1 : (Lit.int .i64 x.2.1).wf = true := by simp [Lit.wf, IntKind.min, IntKind.max, IntKind.bits, IntKind.signed]; omega
  have w2 : (Lit.int .i64 x.2.2.1).wf = true := by simp [Lit.wf, IntKind.min, IntKind.max, IntKind.bits, IntKind.signed]; omega
  have w3 : (Lit.int .u32 x.2.2.2).wf = true := by simp [Lit.wf, IntKind.min, IntKind.max, IntKind.bits, IntKind.signed]; omega
  rw [show nv x = .agg #[.int .i64 x.1, .int .i64 x.2.1, .int .i64 x.2.2.1, .int .u32 x.2.2.2] from rfl]
  unfold keyOf
  simp only [Try.underlying28, keyTypeN, formedN, Bool.and_self, if_true, Value.cells]
  obtain ⟨m, hm⟩ : ∃ m, Try.prog.types.size = m + 1 := sizeN
  rw [hm]
  have e0 : Try.prog.keyLits (m + 1) 3 [.int .i64 x.1] = some [.int .i64 x.1] := klI m _ w0
  have e1 : Try.prog.keyLits (m + 1) 3 [.int .i64 x.2.1] = some [.int .i64 x.2.1] := klI m _ w1
  have e2 : Try.prog.keyLits (m + 1) 3 [.int .i64 x.2.2.1] = some [.int .i64 x.2.2.1] := klI m _ w2
  have e3 : Try.prog.keyLits (m + 1) 22 [.int .u32 x.2.2.2] = some [.int .u32 x.2.2.2] := klU m _ w3
  unfold Program.keyLits
  simp only [Try.underlying28]
  rw [if_pos ⟨by rw [cellsN4]; rfl, namesN⟩]
  simp only [List.mapM_cons, List.mapM_nil, cellsI, cellsU, List.drop_zero, List.drop_succ_cons, List.take_succ_cons, List.take_zero, e0, e1, e2, e3]
  rfl
theorem kn_inj {x y : TM.N} (hx : TM.okN x) (hy : TM.okN y) (h : kn x = kn y) : x = y := by
  have := lawN.inj (keyN hx) (by rw [h]; exact keyN hy)
  unfold nv at this
  obtain ⟨x0, x1, x2, x3⟩ := x
  obtain ⟨y0, y1, y2, y3⟩ := y
  simpa using this
end Go.Proofs.Ytkeigicobcjleab.TB
namespace Go.Proofs.Ytkeigicobcjleab.TB
open Go.ChangeShapes Go.WideShapes Go.ChangeAt Go.RowKit Go.Maps
open Go.Sort hiding Below
set_option linter.unusedVariables false
set_option maxRecDepth 100000

/-- the map of a pool that holds L: its block, or none -/
def Mp (W : World) (mo : Option Nat) (L : List TM.N) : Prop := (mo = none ∧ L = []) ∨ ∃ mb, mo = some mb ∧ ∃ D : DataW Unit, W.ownsMap Try.prog 28 (plainElem Try.prog 3) mb L.length D ∧
  ∀ x, TM.okN x → (∀ i, TM.fnd L x = some i → Maps.has D (kn x) = true ∧ D.atKey (kn x) (.lit (.int .i64 0)) = .lit (.int .i64 (i : Int))) ∧ (TM.fnd L x = none → Maps.has D (kn x) = false)
/-- a pool that holds L, at block b -/
structure Pb (W : World) (b : Nat) (a : Option Addr) (c : Nat) (mo : Option Nat) (L : List TM.N) : Prop where
  at_ : W.heap[b]? = some (.cells #[.slice a L.length c, .map mo] 75 (0, 0))
  own : OwnN W 0 a L.length c L
  map : Mp W mo L
  len : L.length ≤ 65536
  ok : ∀ x ∈ L, TM.okN x
  n1 : blk a ≠ some b
  n2 : mo ≠ some b
  n3 : ∀ m, mo = some m → blk a ≠ some m
def Fb (b : Nat) (a : Option Addr) (mo : Option Nat) (k : Nat) : Prop := k = b ∨ blk a = some k ∨ mo = some k
def Pl : PoolIs := fun W F v L => ∃ b a c mo, v = .pointer (some ⟨b, 0, none⟩) ∧ F = Fb b a mo ∧ Pb W b a c mo L
theorem Mp.keep {W W' : World} {mo : Option Nat} {L : List TM.N} (h : Mp W mo L) (hk : ∀ m, mo = some m → W'.heap[m]? = W.heap[m]?) : Mp W' mo L := by
  rcases h with h | ⟨mb, rfl, D, ⟨es, clock, hb, h1⟩, h2⟩
  · exact .inl h
  · exact .inr ⟨mb, rfl, D, ⟨es, clock, by rw [hk mb rfl]; exact hb, h1⟩, h2⟩
theorem OwnN.keep {W W' : World} {base n cap : Nat} {a : Option Addr} {l : List TM.N} (h : OwnN W base a n cap l) (hk : ∀ b, blk a = some b → W'.heap[b]? = W.heap[b]?) : OwnN W' base a n cap l := by
  refine ⟨⟨h.own.1, ?_⟩, h.len⟩
  rcases h.own.2 with h1 | ⟨g, c, cur, h1, h2, h3, h4⟩
  · exact .inl h1
  · have hg : blk a = some g := by
      injection h1 with h1
      rw [h1]; rfl
    exact .inr ⟨g, c, cur, h1, h2, by rw [hk g hg]; exact h3, h4⟩
theorem Pb.keep {W W' : World} {b : Nat} {a : Option Addr} {c : Nat} {mo : Option Nat} {L : List TM.N} (h : Pb W b a c mo L) (hk : ∀ k, Fb b a mo k → W'.heap[k]? = W.heap[k]?) : Pb W' b a c mo L :=
  ⟨by rw [hk b (.inl rfl)]; exact h.at_, h.own.keep (fun k e => hk k (.inr (.inl e))), h.map.keep (fun k e => hk k (.inr (.inr e))), h.len, h.ok, h.n1, h.n2, h.n3⟩
theorem Pb.lt {W : World} {b : Nat} {a : Option Addr} {c : Nat} {mo : Option Nat} {L : List TM.N} (h : Pb W b a c mo L) (k : Nat) (hk : Fb b a mo k) : k < W.heap.size := by
  rcases hk with rfl | hk | hk
  · exact (Array.getElem?_eq_some_iff.1 h.at_).1
  · obtain ⟨A, e1, e2⟩ := blk_at hk
    rw [← e2]; exact (h.own.at A e1).2
  · rcases h.map with ⟨e, _⟩ | ⟨mb, e, D, hm, _⟩
    · rw [e] at hk; cases hk
    · rw [e] at hk; injection hk with hk; rw [← hk]; exact hm.lt
theorem Pb.below {W W' : World} {b : Nat} {a : Option Addr} {c : Nat} {mo : Option Nat} {L : List TM.N} (h : Pb W b a c mo L) (hb : Below W.heap.size W W') : Pb W' b a c mo L := h.keep (fun k hk => hb.block k (h.lt k hk))
theorem Pb.cells {W : World} {b : Nat} {a : Option Addr} {c : Nat} {mo : Option Nat} {L : List TM.N} (h : Pb W b a c mo L) : W.cell? ⟨b, 0, none⟩ = some (.slice a L.length c) ∧ W.cell? ⟨b, 1, none⟩ = some (.map mo) ∧ ∀ j, W.frozen? ⟨b, j, none⟩ = false := by
  have := h.at_
  exact ⟨by simp [World.cell?, this], by simp [World.cell?, this], fun j => by simp [World.frozen?, this]⟩
theorem pl_keep (W W' : World) (F : Nat → Prop) (v : Value) (L : List TM.N) (h : Pl W F v L) (hs : W.heap.size ≤ W'.heap.size) (hk : ∀ b, F b → W'.heap[b]? = W.heap[b]?) : Pl W' F v L := by
  obtain ⟨b, a, c, mo, rfl, rfl, h⟩ := h
  exact ⟨b, a, c, mo, rfl, rfl, h.keep hk⟩
theorem pl_lt (W : World) (F : Nat → Prop) (v : Value) (L : List TM.N) (h : Pl W F v L) (b : Nat) (hb : F b) : b < W.heap.size := by
  obtain ⟨b', a, c, mo, rfl, rfl, h⟩ := h
  exact h.lt b hb

set_option maxHeartbeats 1600000 in
theorem pl_new (W : World) : Calls Try.prog 14 #[] W fun e w' => ∃ v F, e = .returned v ∧ Pl w' F v [] ∧ Below W.heap.size W w' ∧ (∀ b, F b → W.heap.size ≤ b) := by
  have HP := hid (show Pb (W.alloc (.cells #[.slice none 0 0, .map none] 75)) W.heap.size none 0 none [] from
    ⟨World.alloc_heap_new W (.cells #[.slice none 0 0, .map none] 75), OwnN.nil _ _, .inl ⟨rfl, rfl⟩, by simp, fun x hx => (by cases hx), by simp [blk], by simp, fun m hm => (by cases hm)⟩)
  go_enter Try.func14, Try.ntmps14
  go_wp2
  go_ret
  refine ⟨_, _, rfl, ⟨W.heap.size, none, 0, none, rfl, rfl, HP.out⟩, al _ _, ?_⟩
  rintro b (rfl | h | h)
  · exact Nat.le_refl _
  · cases h
  · cases h

set_option maxHeartbeats 1600000 in
theorem pn_ok : ∀ (o a b k : Int), TM.okN (o, a, b, k) → ∀ W, Calls Try.prog 24 #[.pointer none, .agg #[.int .i64 o, .int .i64 a, .int .i64 b, .int .u32 k]] W fun e w' => e = .returned (.tuple #[.int .i64 0, .int .i64 16]) ∧ Below W.heap.size W w' := by
  intro o a b k ok W
  have HB := hid (al W (.cells #[.int .i64 o, .int .i64 a, .int .i64 b, .int .u32 k] 28))
  clear ok
  go_enter Try.func24, Try.ntmps24
  go_wp2
  go_ret2
  exact ⟨rfl, HB.out⟩

set_option maxHeartbeats 1600000 in
theorem pl_no (W : World) (F : Nat → Prop) (v : Value) (L : List TM.N) (o a b k : Int) (ok : TM.okN (o, a, b, k)) (h : Pl W F v L) (hm : TM.may (o, a, b, k) L.length = false) :
    Calls Try.prog 24 #[v, .agg #[.int .i64 o, .int .i64 a, .int .i64 b, .int .u32 k]] W fun e w' => e = .returned (.tuple #[.int .i64 0, .int .i64 3]) ∧ Below W.heap.size W w' := by
  obtain ⟨pb, pa, pc, mo, rfl, rfl, hP⟩ := h
  have HB := hid (al W (.cells #[.int .i64 o, .int .i64 a, .int .i64 b, .int .u32 k] 28))
  have hP2 := hP.below HB.out
  obtain ⟨c0, c1, cf⟩ := hP2.cells
  have HC := hid (fun W => cstands o a b k ok L.length W false hm)
  clear hP hP2 hm ok
  obtain ⟨n, hn⟩ : ∃ n, L.length = n := ⟨_, rfl⟩
  rw [hn] at c0 HC
  clear hn
  go_enter Try.func24, Try.ntmps24
  go_wp2_with (go_at_call 38; refine (HC.out _).mono ?_; rintro e w1 ⟨rfl, hb⟩; have HB2 := stp HB hb; clear hb HC HB c0 c1 cf)
  go_ret2
  exact ⟨rfl, HB2.out⟩

set_option maxHeartbeats 1600000 in
theorem pl_none (W : World) (F : Nat → Prop) (v : Value) (L : List TM.N) (i : Int) (h : Pl W F v L) (hi : i < 0 ∨ (L.length : Int) ≤ i) (hw : (Lit.int .i64 i).wf = true) :
    Calls Try.prog 17 #[v, .int .i64 i] W fun e w' => e = .returned (.tuple #[.agg #[.int .i64 0, .int .i64 0, .int .i64 0, .int .u32 0], .bool false]) ∧ Below W.heap.size W w' := by
  obtain ⟨pb, pa, pc, mo, rfl, rfl, hP⟩ := h
  have HB := hid (al W (.cells #[.int .i64 0, .int .i64 0, .int .i64 0, .int .u32 0] 28))
  have hP2 := hP.below HB.out
  obtain ⟨c0, c1, cf⟩ := hP2.cells
  obtain ⟨n, hn⟩ : ∃ n, L.length = n := ⟨_, rfl⟩
  rw [hn] at c0 hi
  have HN := hid (NAt.new W 0 0 0 0)
  obtain ⟨q0, q1, q2, q3, qf⟩ := HN.out.cells
  have HZ := hid (And.intro (NAt.new W 0 0 0 0) (al W (.cells #[.int .i64 0, .int .i64 0, .int .i64 0, .int .u32 0] 28)))
  clear hP hP2 hw hn
  by_cases h0 : i < 0
  · have d0 : decide (i < 0) = true := decide_eq_true h0
    clear hi h0
    go_enter Try.func17, Try.ntmps17
    go_wp2
    obtain ⟨hZ, hZ2⟩ := HZ.out
    clear HZ HN q0 q1 q2 q3 qf c0 c1 cf
    refine bodyPost_ret (results_node2 (p := 4) (u := 5) (x := (0, 0, 0, 0)) rfl _ _ rfl hZ) rfl ?_
    exact ⟨rfl, hZ2⟩
  · have d0 : decide (i < 0) = false := decide_eq_false h0
    have d1 : decide ((n : Int) ≤ i) = true := decide_eq_true (by omega)
    clear hi h0
    go_enter Try.func17, Try.ntmps17
    go_wp2
    obtain ⟨hZ, hZ2⟩ := HZ.out
    clear HZ HN q0 q1 q2 q3 qf c0 c1 cf
    refine bodyPost_ret (results_node2 (p := 4) (u := 5) (x := (0, 0, 0, 0)) rfl _ _ rfl hZ) rfl ?_
    exact ⟨rfl, hZ2⟩

set_option maxHeartbeats 1600000 in
theorem pl_has (W : World) (F : Nat → Prop) (v : Value) (L : List TM.N) (i : Nat) (h : Pl W F v L) (hi : i < L.length) (o a b k : Int) (hx : L[i] = (o, a, b, k)) :
    Calls Try.prog 17 #[v, .int .i64 i] W fun e w' => e = .returned (.tuple #[.agg #[.int .i64 o, .int .i64 a, .int .i64 b, .int .u32 k], .bool true]) ∧ Below W.heap.size W w' := by
  obtain ⟨pb, pa, pc, mo, rfl, rfl, hP⟩ := h
  have HB := hid (al W (.cells #[.int .i64 0, .int .i64 0, .int .i64 0, .int .u32 0] 28))
  have hP2 := hP.below HB.out
  obtain ⟨c0, c1, cf⟩ := hP2.cells
  obtain ⟨g, gl, rfl, hly⟩ := hP2.own.lies.ly (by omega)
  obtain ⟨r0, r1, r2, r3⟩ := hly.2 i hi
  rw [hx] at r0 r1 r2 r3
  have hlen := hP.len
  obtain ⟨n, hn⟩ : ∃ n, L.length = n := ⟨_, rfl⟩
  rw [hn] at c0
  have HN := hid (NAt.new W 0 0 0 0)
  obtain ⟨q0, q1, q2, q3, qf⟩ := HN.out.cells
  have HZ := hid (And.intro (NAt.new W o a b k) (al W (.cells #[.int .i64 o, .int .i64 a, .int .i64 b, .int .u32 k] 28)))
  have d0 : decide ((i : Int) < 0) = false := decide_eq_false (by omega)
  have d1 : decide ((n : Int) ≤ (i : Int)) = false := decide_eq_false (by omega)
  have i1 : (i : Int) < (n : Int) := by omega
  have i2 : n ≤ 65536 := by omega
  clear hP hP2 hn hx hly hi hlen
  simp only at r0 r1 r2 r3
  go_enter Try.func17, Try.ntmps17
  go_wp2
  obtain ⟨hZ, hZ2⟩ := HZ.out
  clear HZ HN q0 q1 q2 q3 qf c0 c1 cf r0 r1 r2 r3
  refine bodyPost_ret (results_node2 (p := 4) (u := 5) (x := (o, a, b, k)) rfl _ _ rfl hZ) rfl ?_
  exact ⟨rfl, hZ2⟩
end Go.Proofs.Ytkeigicobcjleab.TB
namespace Go.Proofs.Ytkeigicobcjleab.TB
open Go.ChangeShapes Go.WideShapes Go.ChangeAt Go.RowKit Go.Maps
open Go.Sort hiding Below
set_option linter.unusedVariables false
set_option maxRecDepth 100000

theorem eqNil (w : World) (a : Option Addr) (n c : Nat) : (binOp .eql 29 (.slice a n c) (.slice none 0 0)).run Try.prog w = .ok (.bool a.isNone) w := by
  simp only [binOp]
  simp [Op.equal, Op.maxDepth, Lib.run_equalIn_slice_nil w 9999 29 28 a n c 0 0 Try.underlying29]

set_option maxHeartbeats 1600000 in
theorem cclone0 (w : World) : Calls Try.prog 29 #[.slice none 0 0] w fun e w' => e = .returned (.slice none 0 0) ∧ Below w.heap.size w w' := by
  have HB := hid (Below.refl w.heap.size w)
  have hqn := eqNil
  go_enter Try.func29, Try.ntmps29
  go_wp2
  go_ret
  exact ⟨rfl, HB.out⟩
set_option maxHeartbeats 1600000 in
theorem cclone (A : Addr) (n cap : Nat) (L : List TM.N) (hln : L.length = n) (hn : n ≤ 65536) (w : World) (hl : LiesN w (some A) L) :
    Calls Try.prog 29 #[.slice (some A) n cap] w fun e w' => ∃ a c, e = .returned (.slice a n c) ∧ n ≤ c ∧ LiesN w' a L ∧ Below w.heap.size w w' ∧ (∀ g, blk a = some g → w.heap.size ≤ g) := by
  have HL := hid (hl.below (al w (.cells #[] 28)))
  have HB := hid (al w (.cells #[] 28))
  have hqn := eqNil
  clear hl
  go_enter Try.func29, Try.ntmps29
  go_wp2_with (at_builtin; refine wpList_append_nodes (by rfl) _ _ rfl w.heap.size 0 n 0 cap (some ⟨w.heap.size, 0, none⟩) (some A) [] L rfl (own_new w) rfl HL.out hln (by omega) (by simp) ?_)
  intro a' cap' w2 hown hb
  try simp only [Nat.zero_add, List.nil_append] at hown
  try simp only [Nat.zero_add]
  have HZ := hid (show n ≤ cap' ∧ LiesN w2 a' L ∧ Below w.heap.size w w2 ∧ (∀ g, blk a' = some g → w.heap.size ≤ g) from ⟨hown.cap, hown.lies, HB.out.trans hb, fun g hg => by
    obtain ⟨Z, e1, e2⟩ := blk_at hg
    rw [← e2]; exact (hown.at Z e1).1⟩)
  clear hown hb HB HL
  go_wp2
  go_ret
  exact ⟨a', cap', rfl, HZ.out⟩

theorem own_none {W : World} {base n c : Nat} {L : List TM.N} (h : OwnN W base none n c L) : n = 0 ∧ c = 0 ∧ L = [] := by
  have hl := h.len
  rcases h.own.2 with ⟨h1, h2⟩ | ⟨g, c', cur, h1, _⟩
  · injection h1 with _ e2 e3
    have hn : n = 0 := by omega
    subst hn
    exact ⟨rfl, by omega, List.eq_nil_of_length_eq_zero hl⟩
  · injection h1 with h1; cases h1
set_option maxHeartbeats 1600000 in
theorem pl_allN (W : World) (F : Nat → Prop) (v : Value) (L : List TM.N) (h : Pl W F v L) :
    Calls Try.prog 10 #[v] W fun e w' => ∃ a c, e = .returned (.slice a L.length c) ∧ L.length ≤ c ∧ LiesN w' a L ∧ Below W.heap.size W w' ∧ (∀ g, blk a = some g → W.heap.size ≤ g) := by
  obtain ⟨pb, pa, pc, mo, rfl, rfl, hP⟩ := h
  obtain ⟨c0, c1, cf⟩ := hP.cells
  have hlen := hP.len
  cases pa with
  | none =>
    obtain ⟨e1, e2, e3⟩ := own_none hP.own
    subst e2 e3
    have HC := hid (cclone0 W)
    clear hP e1 hlen c1 cf
    simp only [List.length_nil] at c0 ⊢
    go_enter Try.func10, Try.ntmps10
    go_wp2_with (go_at_call 29; refine HC.out.mono ?_; rintro e w1 ⟨rfl, hb⟩; have HB := hid hb; clear hb HC)
    go_ret
    exact ⟨none, 0, rfl, Nat.le_refl _, .inl rfl, HB.out, fun g hg => (by cases hg)⟩
  | some A =>
    have HC := hid (cclone A L.length pc L rfl hlen W hP.own.lies)
    obtain ⟨n, hn⟩ : ∃ n, L.length = n := ⟨_, rfl⟩
    rw [hn] at c0 HC ⊢
    clear hP hlen c1 cf hn
    go_enter Try.func10, Try.ntmps10
    go_wp2_with (go_at_call 29; refine HC.out.mono ?_; rintro e w1 ⟨a, c, rfl, hb⟩; have HB := hid hb; clear hb HC)
    go_ret
    exact ⟨a, c, rfl, HB.out⟩
theorem pl_all' (W : World) (F : Nat → Prop) (v : Value) (L : List TM.N) (h : Pl W F v L) :
    Calls Try.prog 10 #[v] W fun e w' => ∃ a c, e = .returned (.slice a L.length c) ∧ L.length ≤ c ∧ LiesN w' a L ∧ Below W.heap.size W w' :=
  (pl_allN W F v L h).mono fun _ _ ⟨a, c, h1, h2, h3, h4, _⟩ => ⟨a, c, h1, h2, h3, h4⟩
theorem pl_all (W : World) (F : Nat → Prop) (v : Value) (L : List TM.N) (h : Pl W F v L) :
    Calls Try.prog 10 #[v] W fun e w' => ∃ a c, e = .returned (.slice a L.length c) ∧ LiesN w' a L ∧ Below W.heap.size W w' :=
  (pl_all' W F v L h).mono fun _ _ ⟨a, c, h1, _, h2⟩ => ⟨a, c, h1, h2⟩

/-- what a look-up in a pool's map tells -/
theorem Mp.look {W : World} {mo : Option Nat} {L : List TM.N} (h : Mp W mo L) {x : TM.N} (ok : TM.okN x) : ∃ c : Int, (Instr.lookup 73 (.map mo) (nv x) true).run Try.prog W = .ok (.tuple #[.int .i64 c, .bool (TM.fnd L x).isSome]) W ∧ ∀ i, TM.fnd L x = some i → c = (i : Int) := by
  rcases h with ⟨rfl, rfl⟩ | ⟨mb, rfl, D, hm, hD⟩
  · refine ⟨0, ?_, fun i hi => ?_⟩
    · exact Maps.look_nil (w := W) true lawN Try.underlying73 (zeroi W) (keyN ok)
    · have := (TM.fnd_some.1 hi).1; simp at this
  · obtain ⟨v, ps, hrun, hv⟩ := hm.look_ok lawN Try.underlying73 (zeroi W) (plainElem_int Try.underlying3 (by decide)) (keyN ok)
    obtain ⟨c, rfl, hc, hwc⟩ := plainElem_int_inv Try.underlying3 hv
    have hc := congrArg Prod.fst hc
    obtain ⟨h1, h2⟩ := hD x ok
    cases e : TM.fnd L x with
    | some i =>
      obtain ⟨h3, h4⟩ := h1 i e
      refine ⟨c, by rw [hrun, h3]; rfl, fun j hj => ?_⟩
      injection hj with hj
      have hc2 : DataW.lit (H := Unit) (.int .i64 (i : Int)) = .lit (.int .i64 c) := by rw [← h4]; exact hc
      injection hc2 with hc2
      injection hc2 with _ hc2
      rw [← hc2, hj]
    | none =>
      refine ⟨c, by rw [hrun, h2 e]; rfl, fun j hj => by cases hj⟩
end Go.Proofs.Ytkeigicobcjleab.TB
namespace Go.Proofs.Ytkeigicobcjleab.TB
open Go.ChangeShapes Go.WideShapes Go.ChangeAt Go.RowKit Go.Maps
open Go.Sort hiding Below
set_option linter.unusedVariables false
set_option maxRecDepth 100000

theorem Fr.refl (W : World) (F : Nat → Prop) : Fr W W F := ⟨rfl, rfl, rfl, Nat.le_refl _, fun _ _ _ => rfl⟩
theorem Fr.of_below {W W' : World} {F : Nat → Prop} (h : Below W.heap.size W W') : Fr W W' F := ⟨h.os, h.tape, h.output, h.size, fun b hb _ => h.block b hb⟩
theorem Fr.grown {W A B : World} {F : Nat → Prop} {row : Option Nat} (h : Fr W A F) (hg : A.grownBy B row) (hr : ∀ b, row = some b → F b ∨ W.heap.size ≤ b) : Fr W B F :=
  ⟨hg.os.trans h.os, hg.tape.trans h.tape, hg.output.trans h.output, Nat.le_trans h.size hg.size, fun b hb hF => by
    rw [hg.block b (Nat.lt_of_lt_of_le hb h.size) (fun e => by
      rcases hr b e.symm with h1 | h1
      · exact hF h1
      · omega)]
    exact h.block b hb hF⟩
theorem Fr.below2 {W A B : World} {F : Nat → Prop} (h : Fr W A F) (hb : Below A.heap.size A B) : Fr W B F := h.grown (grown_of_below hb) (fun b e => by cases e)
theorem setG (W : World) (b j : Nat) (v : Value) : W.grownBy (W.setCell ⟨b, j, none⟩ v) (some b) := ⟨rfl, rfl, rfl, by simp, fun k hk hne => Below.heap_setCell _ _ _ _ (fun e => hne (by rw [e]))⟩
theorem run_app1 {w : World} {base n cap c b o' ty : Nat} {a0 : Option Addr} {A : List TM.N} {y : TM.N} (hown : OwnN w base a0 n cap A) (hl : LyN w b o' [y]) (hnm : n ≤ 65536) (hbase : base ≤ w.heap.size) :
    ∃ g cap' w', (Builtin.append_ #[29, 29] ty #[.slice a0 n cap, .slice (some ⟨b, o', none⟩) 1 c]).run Try.prog w = .ok (.slice (some ⟨g, 0, none⟩) (n + 1) cap') w' ∧ OwnN w' base (some ⟨g, 0, none⟩) (n + 1) cap' (A ++ [y]) ∧ w.grownBy w' (blk a0) ∧ (blk a0 = some g ∨ g = w.heap.size) := by
  obtain ⟨i0, hi, hz0, hz1, hz2⟩ := info_parts infoN
  have hbk : ∀ v, v = Value.slice a0 n cap → v.ownBlock = blk a0 := fun v hv => by subst hv; cases a0 <;> rfl
  obtain ⟨g, cap', w', hr, h1, h2, h3, _⟩ := run_append_lies (P := Try.prog) w 29 ty base 28 i0 (.agg #[.int .i64 0, .int .i64 0, .int .i64 0, .int .u32 0]) 4 32 Try.underlying29 hi hz0 hz1 hz2 rfl (by decide) _ n _ hown.own ⟨b, o', none⟩ 1 c (n4s [y]) (by rw [n4s_len]; rfl) (lies_cells hl) (n4s_one [y]) (by omega) (by unfold maxLen; omega) (by omega) hbase w.heap.size rfl
  rw [← n4s_append] at h1
  rw [hbk _ rfl] at h2 h3
  exact ⟨g, cap', w', hr, ⟨h1, by rw [List.length_append, hown.len]; rfl⟩, h2, h3⟩
theorem kn_key (y : TM.N) : WideAt.IsKeyLit (kn y) := trivial
/-- a map made for an empty pool -/
theorem Pb.made {W : World} {b : Nat} {a : Option Addr} {c : Nat} {L : List TM.N} (h : Pb W b a c none L) :
    Pb ((W.alloc (.map #[] 0)).setCell ⟨b, 1, none⟩ (.map (some W.heap.size))) b a c (some W.heap.size) L := by
  have hL : L = [] := by
    rcases h.map with ⟨_, e⟩ | ⟨_, e, _⟩
    · exact e
    · cases e
  have hb := h.lt b (.inl rfl)
  have h2 := h.below (al W (.map #[] 0))
  refine ⟨set_cells _ h2.at_, h2.own.keep (fun k e => Below.heap_setCell _ _ _ _ (fun e2 => h.n1 (by rw [e, e2]))), ?_, h.len, h.ok, h.n1, ?_, ?_⟩
  · refine .inr ⟨_, rfl, .map [], ?_, fun x _ => ⟨fun i hi => ?_, fun _ => rfl⟩⟩
    · have := World.ownsMap_made (H := Unit) W Try.prog 28 (plainElem Try.prog 3)
      rw [hL]
      exact this.setCell (by show W.heap.size ≠ b; omega) _
    · have := (TM.fnd_some.1 hi).1; rw [hL] at this; simp at this
  · intro e; injection e with e; omega
  · intro m hm e
    injection hm with hm
    have := h.lt m (.inr (.inl e))
    omega
/-- a node more, in map and row -/
theorem Pb.more {W W3 W4 : World} {b : Nat} {a : Option Addr} {c mb : Nat} {L : List TM.N} {x : TM.N} (h : Pb W b a c (some mb) L) (ok : TM.okN x) (hf : TM.fnd L x = none) (hlen : L.length < 65536)
    (hG : W.grownBy W3 (some mb)) (hD : Mp W3 (some mb) (L ++ [x])) {o : Obj} {g cap' : Nat} (hO : OwnN W4 0 (some ⟨g, 0, none⟩) (L.length + 1) cap' (L ++ [x])) (hg : (W3.alloc o).grownBy W4 (blk a)) (hgo : blk a = some g ∨ g = (W3.alloc o).heap.size) :
    Pb (W4.setCell ⟨b, 0, none⟩ (.slice (some ⟨g, 0, none⟩) (L.length + 1) cap')) b (some ⟨g, 0, none⟩) cap' (some mb) (L ++ [x]) := by
  have hb := h.lt b (.inl rfl)
  have hmb := h.lt mb (.inr (.inr rfl))
  have hs3 : W.heap.size ≤ W3.heap.size := hG.size
  have hs : (W3.alloc o).heap.size = W3.heap.size + 1 := by simp
  have hgb : g ≠ b := by
    rcases hgo with e | e
    · intro e2; exact h.n1 (by rw [e, e2])
    · omega
  have hgm : g ≠ mb := by
    rcases hgo with e | e
    · intro e2; exact h.n3 mb rfl (by rw [e, e2])
    · omega
  have hbm : mb ≠ b := fun e => h.n2 (by rw [e])
  have e3 : W3.heap[b]? = W.heap[b]? := hG.block b hb (fun e => hbm (by injection e with e; exact e.symm))
  have e4 : W4.heap[b]? = (W3.alloc o).heap[b]? := hg.block b (by omega) (fun e => h.n1 e.symm)
  have e5 : (W3.alloc o).heap[b]? = W3.heap[b]? := Below.heap_alloc _ _ _ (by omega)
  have em : W4.heap[mb]? = W3.heap[mb]? := (hg.block mb (by omega) (fun e => h.n3 mb rfl e.symm)).trans (Below.heap_alloc _ _ _ (by omega))
  have hat := set_cells (j := 0) (Value.slice (some ⟨g, 0, none⟩) (L.length + 1) cap') (e4.trans (e5.trans (e3.trans h.at_)))
  refine ⟨by rw [List.length_append]; exact hat, ?_, ?_, by rw [List.length_append]; simp; omega, fun y hy => ?_, ?_, h.n2, ?_⟩
  · rw [List.length_append]
    exact hO.keep (fun k e => Below.heap_setCell _ _ _ _ (fun e2 => hgb (by injection e with e; exact e.trans e2)))
  · exact hD.keep (fun m hm2 => by
      injection hm2 with hm2
      subst hm2
      rw [Below.heap_setCell _ _ _ _ (show mb ≠ b from hbm)]; exact em)
  · rcases List.mem_append.1 hy with hy | hy
    · exact h.ok y hy
    · rw [List.mem_singleton] at hy; rw [hy]; exact ok
  · intro e; injection e with e; exact hgb e
  · intro m hm2 e
    injection hm2 with hm2
    injection e with e
    exact hgm (by rw [hm2]; exact e)
theorem Mp.more {W : World} {mb : Nat} {L : List TM.N} {x : TM.N} (h : Mp W (some mb) L) (ok : TM.okN x) (hf : TM.fnd L x = none) (hlen : L.length < 65536) :
    ∃ W', (Instr.mapUpdate 73 (.map (some mb)) (nv x) (.int .i64 (L.length : Int))).run Try.prog W = .ok () W' ∧ Mp W' (some mb) (L ++ [x]) ∧ W.mapTurned W' mb := by
  rcases h with ⟨e, _⟩ | ⟨mb', e, D, hm, hD⟩
  · cases e
  injection e with e
  subst e
  have hwf : (Lit.int .i64 (L.length : Int)).wf = true := by simp [Lit.wf, IntKind.min, IntKind.max, IntKind.bits, IntKind.signed]; omega
  obtain ⟨W', hrun, h1, h2⟩ := hm.store lawN Try.underlying73 (by unfold maxLen; omega) (keyN ok) (plainElem_int Try.underlying3 hwf)
  refine ⟨W', hrun, .inr ⟨mb, rfl, _, by rw [List.length_append]; exact h1, fun y oky => ?_⟩, h2⟩
  by_cases e : y = x
  · subst e
    refine ⟨fun i hi => ?_, fun hn => ?_⟩
    · rw [TM.fnd_app hf] at hi
      injection hi with hi
      rw [← hi]
      exact ⟨has_put_same hm.isMap (kn_key _) _, atKey_put_same hm.isMap (kn_key _) _ _⟩
    · rw [TM.fnd_app hf] at hn; cases hn
  · have hne : kn y ≠ kn x := fun h => e (kn_inj oky ok h)
    rw [TM.fnd_app' e, has_put_other hne, atKey_put_other hne]
    exact hD y oky
end Go.Proofs.Ytkeigicobcjleab.TB
