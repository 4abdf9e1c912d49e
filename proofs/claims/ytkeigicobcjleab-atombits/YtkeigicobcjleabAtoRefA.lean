/-
  The reference's small functions of layer 13, and what a row and an atom of it are, as walks over the Go text.
-/
import Derived.Test.YtkeigicobcjleabAtoMath
import Derived.Test.YtkeigicobcjleabSimRefB
import Derived.Test.YtkeigicobcjleabSimLawP
import Derived.Deep.DeepCutAuto
import Derived.Deep.RegionHeldLaw
namespace Go.Proofs.Ytkeigicobcjleab.TM
/-- an atom of two places of a row that was made longer: what is told -/
structure MadeA (l m : List N) (a : At) (o : Int) (p q : Nat) (n : Bool) : Prop where
  pre : ∃ E, m = l ++ E
  row : Row m
  once : Once m
  ok : ∀ x ∈ m, okN x
  op : a.1 = 1 → o = a.2.1 ∧ n = a.2.2.2.2 ∧ p < m.length ∧ q < m.length ∧ tr m p = a.2.2.1 ∧ tr m q = a.2.2.2.1
  kn : a.1 ≠ 1 → o = 0 ∧ p = 0 ∧ q = 0 ∧ n = false
theorem MadeA.trans {l m k : List N} {t : Tr} {p : Nat} (h : Made l m t p) {a : At} {o : Int} {q r : Nat} {n : Bool} (h' : MadeA m k a o q r n) : MadeA l k a o q r n := by
  obtain ⟨E, rfl⟩ := h.pre
  obtain ⟨F, hF⟩ := h'.pre
  exact ⟨⟨E ++ F, by rw [hF, List.append_assoc]⟩, h'.row, h'.once, h'.ok, h'.op, h'.kn⟩
theorem MadeA.len {l m : List N} {a : At} {o : Int} {p q : Nat} {n : Bool} (h : MadeA l m a o p q n) : l.length ≤ m.length := by
  obtain ⟨E, rfl⟩ := h.pre; simp
theorem MadeA.keep {l m : List N} {a : At} {o : Int} {p q : Nat} {n : Bool} (h : MadeA l m a o p q n) {i : Nat} (hi : i < l.length) : nat0 m i = nat0 l i ∧ TM.tr m i = TM.tr l i := by
  obtain ⟨E, rfl⟩ := h.pre
  exact ⟨nat0_append hi, tr_append hi⟩
theorem MadeA.known {l : List N} (h1 : Row l) (h2 : Once l) (h3 : ∀ x ∈ l, okN x) (b n : Bool) : MadeA l l (knB b n) 0 0 0 false :=
  ⟨⟨[], by simp⟩, h1, h2, h3, fun h => absurd h (kn_1 b n), fun _ => ⟨rfl, rfl, rfl, rfl⟩⟩
theorem MadeA.opn {l m : List N} {t : Tr} {q : Nat} (h : Made l m t q) {p : Nat} (hp : p < l.length) (o : Int) (n : Bool) : MadeA l m (opA o (TM.tr l p) t n) o p q n :=
  ⟨h.pre, h.row, h.once, h.ok, fun _ => ⟨rfl, rfl, Nat.lt_of_lt_of_le hp h.len, h.lt, (h.keep hp).2, h.tr⟩, fun e => absurd rfl e⟩
end Go.Proofs.Ytkeigicobcjleab.TM
namespace Go.Proofs.Ytkeigicobcjleab.TB
open Go.ChangeShapes Go.WideShapes Go.ChangeAt Go.RowKit
open Go.Sort hiding Below
set_option linter.unusedVariables false
set_option maxRecDepth 100000

theorem al2 (w : World) (a b : Obj) : Below w.heap.size w ((w.alloc a).alloc b) := (al w a).trans ((al _ b).mono (al w a).size)
/-- a row that was made longer, and an atom of it -/
def AtAt (base : Nat) (w : World) (s : Option Addr) (L : List TM.N) (a : TM.At) (B : Nat) (e : Ending) (w' : World) : Prop :=
  ∃ s' n' c' L' o p q n, e = .returned (.tuple #[.slice s' n' c', .agg #[.int .i64 o, .int .i64 ((p : Nat) : Int), .int .i64 ((q : Nat) : Int), .bool n], .int .i64 ((a.1 : Nat) : Int)]) ∧ OwnN w' base s' n' c' L' ∧ w.grownBy w' (blk s) ∧ (∀ g, blk s' = some g → blk s = some g ∨ w.heap.size ≤ g) ∧ LiesN w' s L ∧ TM.MadeA L L' a o p q n ∧ L'.length ≤ L.length + B
theorem AtAt.more {base : Nat} {w w' : World} {s : Option Addr} {L : List TM.N} {t : TM.At} {B C : Nat} {e : Ending} (h : AtAt base w s L t B e w') (hBC : B ≤ C) : AtAt base w s L t C e w' := by
  obtain ⟨s', n', c', L', o, p, q, n, h1, h2, h3, h4, h5, h6, h7⟩ := h
  exact ⟨s', n', c', L', o, p, q, n, h1, h2, h3, h4, h5, h6, by omega⟩
theorem AtAt.of_below {base : Nat} {w w1 w' : World} {s : Option Addr} {L : List TM.N} {t : TM.At} {B : Nat} {e : Ending} (hb : Below w.heap.size w w1) (h : AtAt base w1 s L t B e w') : AtAt base w s L t B e w' := by
  obtain ⟨s', n', c', L', o, p, q, n, h1, h2, h3, h4, h5, h6, h7⟩ := h
  exact ⟨s', n', c', L', o, p, q, n, h1, h2, gtrans hb h3, fun g hg => (h4 g hg).imp id fun h => Nat.le_trans hb.size h, h5, h6, h7⟩
theorem AtAt.comp {base n c n1 c1 : Nat} {w w1 w2 : World} {s s1 : Option Addr} {L L1 : List TM.N} {t : TM.Tr} {u : TM.At} {p : Nat} {B C : Nat} {e : Ending} (hO : OwnN w base s n c L)
    (hO1 : OwnN w1 base s1 n1 c1 L1) (hg1 : w.grownBy w1 (blk s)) (hat : ∀ g, blk s1 = some g → blk s = some g ∨ w.heap.size ≤ g) (hl1 : LiesN w1 s L) (hm : TM.Made L L1 t p) (hlen : L1.length ≤ L.length + B)
    (h : AtAt base w1 s1 L1 u C e w2) : AtAt base w s L u (B + C) e w2 := by
  obtain ⟨s', n', c', L', o, q, r, k, h1, h2, h3, h4, h5, h6, h7⟩ := h
  obtain ⟨E, hE⟩ := hm.pre
  subst hE
  refine ⟨s', n', c', L', o, q, r, k, h1, h2, gcomp hg1 h3 hat, fun g hg => ?_, lies_comp hO hl1 hO1 h5 h3 hat, TM.MadeA.trans hm h6, by omega⟩
  rcases h4 g hg with h8 | h8
  · exact hat g h8
  · right; exact Nat.le_trans hg1.size h8
theorem AtAt.kn {base n c : Nat} {w w' : World} {s : Option Addr} {L : List TM.N} (hO : OwnN w base s n c L) (hb : Below w.heap.size w w') (h1 : TM.Row L) (h2 : TM.Once L) (h3 : ∀ x ∈ L, TM.okN x) (x y : Bool) (B : Nat) :
    AtAt base w s L (TM.knB x y) B (.returned (.tuple #[.slice s n c, .agg #[.int .i64 0, .int .i64 0, .int .i64 0, .bool false], .int .i64 (((TM.knB x y).1 : Nat) : Int)])) w' :=
  ⟨s, n, c, L, 0, 0, 0, false, rfl, hO.below hb, ⟨hb.os, hb.tape, hb.output, hb.size, fun k hk _ => hb.block k hk⟩, fun g h => .inl h, (hO.below hb).lies, TM.MadeA.known h1 h2 h3 x y, by omega⟩
theorem AtAt.opn {base n c : Nat} {w w' : World} {s : Option Addr} {L : List TM.N} (hO : OwnN w base s n c L) (hb : Below w.heap.size w w') (h1 : TM.Row L) (h2 : TM.Once L) (h3 : ∀ x ∈ L, TM.okN x) {p q : Nat} (hp : p < L.length) (hq : q < L.length) (o : Int) (k : Bool) (B : Nat) :
    AtAt base w s L (TM.opA o (TM.tr L p) (TM.tr L q) k) B (.returned (.tuple #[.slice s n c, .agg #[.int .i64 o, .int .i64 ((p : Nat) : Int), .int .i64 ((q : Nat) : Int), .bool k], .int .i64 1])) w' :=
  ⟨s, n, c, L, o, p, q, k, rfl, hO.below hb, ⟨hb.os, hb.tape, hb.output, hb.size, fun k hk _ => hb.block k hk⟩, fun g h => .inl h, (hO.below hb).lies, TM.MadeA.opn (TM.Made.here h1 h2 h3 hq) hp o k, by omega⟩
/-- what a number's node was made for -/
theorem AtAt.made {base : Nat} {w w' : World} {s : Option Addr} {L : List TM.N} {t : TM.Tr} {B p : Nat} (hp : p < L.length) (o : Int) (k : Bool) {s' : Option Addr} {n' c' : Nat} {L' : List TM.N} {q : Nat}
    (h2 : OwnN w' base s' n' c' L') (h3 : w.grownBy w' (blk s)) (h4 : ∀ g, blk s' = some g → blk s = some g ∨ w.heap.size ≤ g) (h5 : LiesN w' s L) (h6 : TM.Made L L' t q) (h7 : L'.length ≤ L.length + B) :
    AtAt base w s L (TM.opA o (TM.tr L p) t k) B (.returned (.tuple #[.slice s' n' c', .agg #[.int .i64 o, .int .i64 ((p : Nat) : Int), .int .i64 ((q : Nat) : Int), .bool k], .int .i64 1])) w' :=
  ⟨s', n', c', L', o, p, q, k, rfl, h2, h3, h4, h5, TM.MadeA.opn h6 hp o k, h7⟩

/-- an atom in a block of its own -/
def AAt (W : World) (b : Nat) (o p q : Int) (n : Bool) : Prop := W.heap[b]? = some (.cells #[.int .i64 o, .int .i64 p, .int .i64 q, .bool n] 31 (0, 0))
theorem AAt.lt {W : World} {b : Nat} {o p q : Int} {n : Bool} (h : AAt W b o p q n) : b < W.heap.size := by
  rcases Nat.lt_or_ge b W.heap.size with h' | h'
  · exact h'
  · unfold AAt at h; rw [Array.getElem?_eq_none h'] at h; cases h
theorem AAt.of_block {W W' : World} {b : Nat} {o p q : Int} {n : Bool} (h : AAt W b o p q n) (hb : W'.heap[b]? = W.heap[b]?) : AAt W' b o p q n := by
  unfold AAt at *
  rw [hb]; exact h
theorem AAt.below {W W' : World} {b : Nat} {o p q : Int} {n : Bool} (h : AAt W b o p q n) (hb : Below W.heap.size W W') : AAt W' b o p q n := h.of_block (hb.block b h.lt)
theorem AAt.grown {W W' : World} {b : Nat} {o p q : Int} {n : Bool} {g : Option Nat} (h : AAt W b o p q n) (hg : W.grownBy W' g) (hne : some b ≠ g) : AAt W' b o p q n := h.of_block (hg.block b h.lt hne)
theorem AAt.cells {W : World} {b : Nat} {o p q : Int} {n : Bool} (h : AAt W b o p q n) : W.cell? ⟨b, 0, none⟩ = some (.int .i64 o) ∧ W.cell? ⟨b, 1, none⟩ = some (.int .i64 p) ∧ W.cell? ⟨b, 2, none⟩ = some (.int .i64 q) ∧ W.cell? ⟨b, 3, none⟩ = some (.bool n) ∧ ∀ j, W.frozen? ⟨b, j, none⟩ = false := by
  unfold AAt at h
  exact ⟨by simp [World.cell?, h], by simp [World.cell?, h], by simp [World.cell?, h], by simp [World.cell?, h], fun j => by simp [World.frozen?, h]⟩
theorem AAt.new (W : World) (o a b : Int) (n : Bool) : AAt (W.alloc (.cells #[.int .i64 o, .int .i64 a, .int .i64 b, .bool n] 31)) W.heap.size o a b n := by
  unfold AAt; exact World.alloc_heap_new W _
def aput (W : World) (b : Nat) (o p q : Int) (n : Bool) : World := (((W.setCell ⟨b, 0, none⟩ (.int .i64 o)).setCell ⟨b, 1, none⟩ (.int .i64 p)).setCell ⟨b, 2, none⟩ (.int .i64 q)).setCell ⟨b, 3, none⟩ (.bool n)
theorem AAt.put {W : World} {b : Nat} {o p q : Int} {n : Bool} (o' p' q' : Int) (n' : Bool) (h : AAt W b o p q n) : AAt (aput W b o' p' q' n') b o' p' q' n' := by
  have h0 : (W.setCell ⟨b, 0, none⟩ (.int .i64 o')).heap[b]? = some (.cells #[.int .i64 o', .int .i64 p, .int .i64 q, .bool n] 31 (0, 0)) := set_cells _ h
  have h1 : ((W.setCell ⟨b, 0, none⟩ (.int .i64 o')).setCell ⟨b, 1, none⟩ (.int .i64 p')).heap[b]? = some (.cells #[.int .i64 o', .int .i64 p', .int .i64 q, .bool n] 31 (0, 0)) := set_cells _ h0
  have h2 : (((W.setCell ⟨b, 0, none⟩ (.int .i64 o')).setCell ⟨b, 1, none⟩ (.int .i64 p')).setCell ⟨b, 2, none⟩ (.int .i64 q')).heap[b]? = some (.cells #[.int .i64 o', .int .i64 p', .int .i64 q', .bool n] 31 (0, 0)) := set_cells _ h1
  exact set_cells _ h2
theorem aput_fr (W : World) (b : Nat) (o p q : Int) (n : Bool) : Fr W (aput W b o p q n) (fun x => x = b) := by
  have key : ∀ (W : World) (j : Nat) (v : Value), Fr W (W.setCell ⟨b, j, none⟩ v) (fun x => x = b) := fun W j v =>
    ⟨rfl, rfl, rfl, by simp, fun k _ hk => Below.heap_setCell _ _ _ _ hk⟩
  have tr : ∀ {A B C : World}, Fr A B (fun x => x = b) → Fr B C (fun x => x = b) → Fr A C (fun x => x = b) := fun h g =>
    ⟨g.os.trans h.os, g.tape.trans h.tape, g.output.trans h.output, Nat.le_trans h.size g.size, fun k hk hn => (g.block k (Nat.lt_of_lt_of_le hk h.size) hn).trans (h.block k hk hn)⟩
  exact tr (tr (tr (key _ _ _) (key _ _ _)) (key _ _ _)) (key _ _ _)
theorem results_atom3 {fn : Func} {t p u : Tmp} (h : fn.results = #[.tmp t, .cell p 31, .tmp u]) (tmps : Array Value) (w : World) {b : Nat} {o x y : Int} {n : Bool} (hp : tmps[p]?.getD undef = .pointer (some ⟨b, 0, none⟩)) (hA : AAt w b o x y n) :
    (results fn tmps).run Try.prog w = .ok (.tuple #[tmps[t]?.getD undef, .agg #[.int .i64 o, .int .i64 x, .int .i64 y, .bool n], tmps[u]?.getD undef]) w := by
  obtain ⟨a0, a1, a2, a3, a4⟩ := hA.cells
  simp [results, h, hp, go_sem, a0, a1, a2, a3]
theorem LiesN.fr {W W' : World} {s : Option Addr} {L : List TM.N} {F : Nat → Prop} (h : LiesN W s L) (hf : Fr W W' F) (hne : ∀ b, blk s = some b → ¬ F b) : LiesN W' s L := by
  rcases h with h | ⟨b, o, rfl, h1, h2⟩
  · exact .inl h
  · have e := hf.block b h1 (hne b rfl)
    refine .inr ⟨b, o, rfl, Nat.lt_of_lt_of_le h1 hf.size, fun j hj => ?_⟩
    obtain ⟨q0, q1, q2, q3⟩ := h2 j hj
    exact ⟨(World.cell?_of_block e).trans q0, (World.cell?_of_block e).trans q1, (World.cell?_of_block e).trans q2, (World.cell?_of_block e).trans q3⟩
/-- what is told, its atom put into a box that was made ahead -/
theorem AtAt.box {base : Nat} {w W1 w' : World} {s : Option Addr} {L : List TM.N} {t : TM.At} {B : Nat} {e : Ending} {b : Nat} (hB : Below w.heap.size w W1) (hb : w.heap.size ≤ b) (hb1 : b < W1.heap.size) (hs : ∀ g, blk s = some g → g < w.heap.size)
    (h : AtAt base W1 s L t B e w') (o p q : Int) (n : Bool) : AtAt base w s L t B e (aput w' b o p q n) := by
  obtain ⟨s', n', c', L', o', p', q', k', h1, h2, h3, h4, h5, h6, h7⟩ := h
  have hf := aput_fr w' b o p q n
  have hns : ∀ g, blk s = some g → ¬ g = b := fun g hg e => by have := hs g hg; omega
  have hns' : ∀ g, blk s' = some g → ¬ g = b := fun g hg e => by
    rcases h4 g hg with h | h
    · exact hns g h e
    · omega
  have h3' := gtrans hB h3
  refine ⟨s', n', c', L', o', p', q', k', h1, h2.fr hf hns', ⟨hf.os.trans h3'.os, hf.tape.trans h3'.tape, hf.output.trans h3'.output, Nat.le_trans h3'.size hf.size, fun k hk hne => (hf.block k (Nat.lt_of_lt_of_le hk h3'.size) (by omega)).trans (h3'.block k hk hne)⟩, fun g hg => (h4 g hg).imp id fun h => Nat.le_trans hB.size h, h5.fr hf hns, h6, h7⟩

end Go.Proofs.Ytkeigicobcjleab.TB
