/-
  The program's trees of layer 11, as a walk over the Go text.
-/
import Derived.Test.YtapbeffjnpgglabTerCodG
import Derived.Test.YtapbeffjnpgglabT2
namespace Go.Proofs.Ytapbeffjnpgglab.TM
set_option linter.unusedVariables false
/-- what is in, behind the places of pre -/
def fdB {n : Nat} (L : List N) (base : Nat → Bool) (pre : List (Fin n)) : Nat → Bool := pre.foldl (fun st x => fun j => st j || (st x.1 && (parts (nat0 L x.1)).contains j)) base
theorem fdB_snoc {n : Nat} (L : List N) (base : Nat → Bool) (pre : List (Fin n)) (x : Fin n) (j : Nat) : fdB L base (pre ++ [x]) j = (fdB L base pre j || (fdB L base pre x.1 && (parts (nat0 L x.1)).contains j)) := by
  unfold fdB; rw [List.foldl_append]; rfl
def baseR (R : List Int) (k : Nat) (j : Nat) : Bool := (R.take k).any fun t => decide (j = t.toNat)
theorem baseR_succ {R : List Int} {k : Nat} (h : k < R.length) (j : Nat) : baseR R (k + 1) j = (baseR R k j || decide (j = R[k].toNat)) := by
  unfold baseR
  rw [List.take_succ_eq_append_getElem h, List.any_append]
  simp
theorem any_or {α : Type} (f g : α → Bool) (l : List α) : (l.any fun x => f x || g x) = (l.any f || l.any g) := by
  induction l with
  | nil => rfl
  | cons a l ih => rw [List.any_cons, List.any_cons, List.any_cons, ih]; cases f a <;> cases g a <;> simp
theorem any_and {α : Type} (f : α → Bool) (c : Bool) (l : List α) : (l.any fun x => f x && c) = (l.any f && c) := by
  induction l with
  | nil => rfl
  | cons a l ih => rw [List.any_cons, List.any_cons, ih]; cases f a <;> cases c <;> simp
theorem fdB_dn {L : List N} (hL : Row L) (R : List Int) : ∀ q, q ≤ L.length → ∀ j, fdB L (baseR R R.length) (TB.dn L.length q) j = R.any fun t => inK L t.toNat (L.length - q) j := by
  intro q
  induction q with
  | zero =>
    intro _ j
    show baseR R R.length j = _
    unfold baseR
    rw [List.take_length]
    refine any_ext fun t _ => ?_
    rw [Nat.sub_zero, inK_end]
  | succ q ih =>
    intro hq j
    have hlt : L.length - (q + 1) < L.length := by omega
    rw [TB.dn_succ (by omega), fdB_snoc, ih (by omega), ih (by omega)]
    show ((R.any fun t => inK L t.toNat (L.length - q) j) || ((R.any fun t => inK L t.toNat (L.length - q) (L.length - 1 - q)) && (parts (nat0 L (L.length - 1 - q))).contains j)) = _
    rw [show L.length - 1 - q = L.length - (q + 1) by omega]
    have e : ∀ t : Int, inK L t.toNat (L.length - (q + 1)) j = (inK L t.toNat (L.length - q) j || (inT L t.toNat (L.length - (q + 1)) && (parts (nat0 L (L.length - (q + 1)))).contains j)) := fun t => by
      rw [inK_succ hlt, show L.length - (q + 1) + 1 = L.length - q by omega]
    have e2 : ∀ t : Int, inK L t.toNat (L.length - q) (L.length - (q + 1)) = inT L t.toNat (L.length - (q + 1)) := fun t => by
      rw [← inK_at L t.toNat (L.length - (q + 1)), show L.length - (q + 1) + 1 = L.length - q by omega]
    rw [any_ext (f := fun t : Int => inK L t.toNat (L.length - (q + 1)) j) (fun t _ => e t), any_or, any_and]
    congr 2
    exact any_ext fun t _ => e2 t
theorem fdB_all {L : List N} (hL : Row L) (R : List Int) (j : Nat) : fdB L (baseR R R.length) (TB.dn L.length L.length) j = inR L R j := by
  rw [fdB_dn hL R L.length (Nat.le_refl _), Nat.sub_self]
  exact any_ext fun t _ => inK_zero hL t.toNat j
end Go.Proofs.Ytapbeffjnpgglab.TM
namespace Go.Proofs.Ytapbeffjnpgglab.TB
open Go.ChangeShapes Go.WideShapes Go.ChangeAt Go.RowKit Go.Shelf
open Go.Sort hiding Below
set_option linter.unusedVariables false
set_option maxRecDepth 100000
attribute [local go_sem] Oper.semAt_some

theorem wpListIn_make_full {F : Fence} {d : Nat} {P : Program} (w : World) {ops : Array Oper} {rest : List Oper} {o : Oper} {a : Act} {Q : Exit → Act → World → Prop}
    (hg : o.guard = none) (l c : Operand) (t : TypeId) (hop : o.op = Op.makeSlice t l c)
    (base : Nat) (e : TypeId) (i : TypeInfo) (z : Value) (size : Nat) (h1 : P.underlying t = some (.slice e)) (h2 : P.info? e = some i) (h3 : i.zero = some z) (h4 : i.size = size)
    (kl kc : IntKind) (X C : Int) (n : Nat) (hl : a.eval l = .int kl X) (hc : a.eval c = .int kc C) (hL : X = (n : Int)) (hC : C = (n : Int)) (b2 : i.bytes * n ≤ 281474976710656) (b3 : n ≤ maxLen) (b4 : base ≤ w.heap.size)
    (hK : ∀ w', w'.ownsRow base e size (.slice (some ⟨w.heap.size, 0, none⟩) n n) n (madeCells z.cells (n * size)).toList → w.grownBy w' none → wpListIn F d P ops Q rest (a.put o.dst (.slice (some ⟨w.heap.size, 0, none⟩) n n)) w') :
    wpListIn F d P ops Q (o :: rest) a w := by
  refine wpListIn_plain hg fun K hK' => ?_
  obtain ⟨w', hrun, r1, r2⟩ := run_make_full (P := P) w base t e i z size h1 h2 h3 h4 kl kc n b2 b3 b4
  subst hL
  subst hC
  unfold Oper.wpIn
  refine ⟨?_, ?_⟩
  · simp [Oper.about, hop]
  · rw [Oper.semAt_plain F _ _ (by rw [hop]; intro c hc'; cases hc')]
    simp [execOp, hop, hl, hc, hrun, Result.andThen]
    exact hK' _ _ (hK w' r1 r2)

theorem row_own {β : Type} (g n : Nat) (V : β → Nat → Value) : Own (fun s W => Row W g n (V s)) := fun s W W' row hs hg hr =>
  ⟨Nat.lt_of_lt_of_le hs.lt hg.size, fun j hj => cell_kept (hs.cell j hj) hg hr, fun j hj => (frozen_kept (hs.cell j hj) hg hr).trans (hs.froz j hj)⟩
theorem nat_own {β : Type} (b : Nat) (x : β → TM.N) : Own (fun s W => NAt W b (x s)) := fun s W W' row hs hg hr => by
  have e : W'.heap[b]? = W.heap[b]? := grownBy_keeps_cells hg hr hs rfl
  show W'.heap[b]? = _
  rw [e]; exact hs
theorem keepsFrom_of_below {B : Nat} {W W' : World} (h : Below W.heap.size W W') : KeepsFrom B W W' := ⟨h.size, fun k o _ hk _ => (h.block k (Array.getElem?_eq_some_iff.1 hk).1).trans hk⟩
theorem kpB_of_below {n₀ Bs : Nat} {W W' : World} (h : Below W.heap.size W W') (hn : n₀ ≤ W.heap.size) : KpB n₀ Bs W W' := ⟨h.mono hn, fun o ho => (h.block Bs (Array.getElem?_eq_some_iff.1 ho).1).trans ho⟩
theorem kpB_set {n₀ Bs g j : Nat} {W : World} {v : Value} (hn : n₀ ≤ g) (hne : Bs ≠ g) : KpB n₀ Bs W (W.setCell ⟨g, j, none⟩ v) := ⟨(Below.refl _ _).setCell hn _, fun o ho => by rw [Below.heap_setCell _ _ _ _ hne]; exact ho⟩

/-- within a round: what is kept, and what lies where -/
structure TrSt (w W W1 : World) (B0 Bs Bx bi g n : Nat) (x : TM.N) (V : Nat → Bool) : Prop where
  kf : KeepsFrom B0 W W1
  kp : KpB w.heap.size Bs W W1
  nd : NAt W1 Bx x
  bx : Boxed W1 bi 78 (.slice (some ⟨g, 0, none⟩) n n)
  rw : Row W1 g n (fun j => .bool (V j))
  bl : Below w.heap.size w W1
theorem TrSt.below {w W W1 W2 : World} {B0 Bs Bx bi g n : Nat} {x : TM.N} {V : Nat → Bool} (h : TrSt w W W1 B0 Bs Bx bi g n x V) (hb : Below W1.heap.size W1 W2) : TrSt w W W2 B0 Bs Bx bi g n x V :=
  ⟨h.kf.trans (keepsFrom_of_below hb), h.kp.trans (kpB_of_below hb h.bl.size), h.nd.below hb, (hb.block bi h.bx.lt).trans h.bx, h.rw.below hb, h.bl.trans (hb.mono h.bl.size)⟩
theorem TrSt.set {w W W1 : World} {B0 Bs Bx bi g n : Nat} {x : TM.N} {V U : Nat → Bool} (h : TrSt w W W1 B0 Bs Bx bi g n x V) (y : Nat) (hy : y < n) (h1 : Bx ≠ g) (h2 : bi ≠ g) (h3 : Bs ≠ g) (h4 : w.heap.size ≤ g) (hU : ∀ j, U j = (V j || decide (j = y))) : TrSt w W (W1.setCell ⟨g, y, none⟩ (.bool true)) B0 Bs Bx bi g n x U :=
  ⟨h.kf.trans ((KeepsOthers.setCell _ _ _).from _), h.kp.trans (kpB_set h4 h3), h.nd.off h1, by
    have := h.bx
    unfold Boxed at *
    rw [Below.heap_setCell _ _ _ _ h2]; exact this, (h.rw.set y hy _).congr (fun j hj => by
    rw [hU]
    by_cases e : j = y
    · subst e; rw [if_pos rfl]; simp
    · rw [if_neg e, decide_eq_false e, Bool.or_false]), h.bl.setCell h4 _⟩

set_option maxHeartbeats 6400000 in
theorem trees_in (A : Option Addr) (n cap : Nat) (L : List TM.N) (hln : L.length = n) (hL : TM.Row L) (B : Option Addr) (m c : Nat) (R : List Int) (hlm : R.length = m) (hm : m ≤ 65536) (hin : inB L R) (w : World) (hl : LiesN w A L) (hR : LiesI w B R) :
    CallsIn Fence.wide 5 Try.prog 46 #[.slice A n cap, .slice B m c] w fun e w' => ∃ g, e = .returned (.slice (some ⟨g, 0, none⟩) n n) ∧ Row w' g n (fun j => .bool (TM.inR L R j)) ∧ Below w.heap.size w w' ∧ w.heap.size ≤ g := by
  have hn : n ≤ 65536 := by rw [← hln]; exact hL.1
  obtain ⟨i0, hi, hz0, hz1, hz2⟩ := info_parts infob
  have HH := hid (And.intro hln (And.intro hlm (And.intro hl (And.intro hR (And.intro hL hin)))))
  clear hln hL hlm hin hl hR
  refine callsIn_of_wp_marks Try.func46 rfl trivial ?_ rfl
  simp only [Try.ntmps46, List.size_toArray, List.length_cons, List.length_nil, Nat.reduceAdd, Nat.reduceSub, Array.replicate_succ, Array.replicate_zero, List.push_toArray, List.append_toArray, List.nil_append, List.cons_append]
  gi_wp2_with (gi_at_make; refine wpListIn_make_full _ rfl _ _ 78 rfl w.heap.size 4 i0 (.bool false) 1 Try.underlying78 hi hz0 hz1 .i64 .i64 n n n rfl rfl rfl rfl ?c1 ?c2 (Nat.le_refl _) ?_)
  case c1 => rw [hz2]; omega
  case c2 => unfold maxLen; omega
  intro wm hown hgrow
  have hBm : Below w.heap.size w wm := (Below.refl _ _).grown hgrow (Nat.le_refl _) (by intro k hk; cases hk)
  have hNm : Row wm w.heap.size n (fun _ => .bool false) := Row.of_own hown (fun j hj => made_get (.bool false) n j hj) (hown.lt _ rfl).2
  have hgm : w.heap.size < wm.heap.size := hNm.lt
  have HN := hid (show Row (wm.alloc (.cells #[.slice (some ⟨w.heap.size, 0, none⟩) n n] 78)) w.heap.size n (fun _ => .bool false) ∧ Boxed (wm.alloc (.cells #[.slice (some ⟨w.heap.size, 0, none⟩) n n] 78)) wm.heap.size 78 (.slice (some ⟨w.heap.size, 0, none⟩) n n) ∧ Below w.heap.size w (wm.alloc (.cells #[.slice (some ⟨w.heap.size, 0, none⟩) n n] 78)) from
    ⟨hNm.below (al _ _), Boxed.new _ _ _, hBm.alloc hBm.size _⟩)
  clear hown hgrow hBm hNm
  gi_wp2
  gi_loopw [15] (fun i wr => ∃ k : Nat, k ≤ m ∧ i = .int .i64 k ∧ Hid (Row wr w.heap.size n (fun j => .bool (TM.baseR R k j)) ∧ Boxed wr wm.heap.size 78 (.slice (some ⟨w.heap.size, 0, none⟩) n n) ∧ Below w.heap.size w wr)) (fun i _ => m - (intOf i).toNat)
  case atStart => exact ⟨0, Nat.zero_le _, rfl, HN.out⟩
  case round =>
    clear HN
    obtain ⟨k, hk, rfl, HP⟩ := hrel
    have cB := HP.out.2.1.cell
    by_cases hlt : k < m
    · have i2 : (k : Int) < (m : Int) := by omega
      have hkl : k < R.length := by rw [HH.out.2.1]; exact hlt
      obtain ⟨b, o, rfl, hbl, hcs⟩ := (HH.out.2.2.2.1.below HP.out.2.2).at (by omega)
      have q0 := hcs k hkl
      have hy2 := HH.out.2.2.2.2.2 R[k] (List.getElem_mem hkl)
      have hst := TM.baseR_succ hkl
      obtain ⟨y, hy⟩ : ∃ y, R[k] = y := ⟨_, rfl⟩
      rw [hy] at q0 hy2 hst
      obtain ⟨y, rfl⟩ : ∃ z : Nat, y = z := ⟨y.toNat, by omega⟩
      have hyn : y < n := by have := HH.out.1; omega
      have i3 : (y : Int) < (n : Int) := by omega
      have cR := HP.out.1.cell y hyn
      have fR := HP.out.1.froz y hyn
      have HZ := hid (show Row (wr.setCell ⟨w.heap.size, y, none⟩ (.bool true)) w.heap.size n (fun j => .bool (TM.baseR R (k + 1) j)) ∧ Boxed (wr.setCell ⟨w.heap.size, y, none⟩ (.bool true)) wm.heap.size 78 (.slice (some ⟨w.heap.size, 0, none⟩) n n) ∧ Below w.heap.size w (wr.setCell ⟨w.heap.size, y, none⟩ (.bool true)) from
        ⟨(HP.out.1.set y hyn _).congr (fun j hj => by
          rw [hst, Int.toNat_natCast]
          by_cases e : j = y
          · subst e; rw [if_pos rfl]; simp
          · rw [if_neg e, decide_eq_false e, Bool.or_false]), by
          have := HP.out.2.1
          unfold Boxed at *
          rw [Below.heap_setCell _ _ _ _ (show wm.heap.size ≠ w.heap.size by omega)]; exact this, HP.out.2.2.setCell (Nat.le_refl _) _⟩)
      clear hy hcs hbl hy2 hst HP
      gi_wp2
      go_roundw
      case rel => exact ⟨k + 1, by omega, by go_num, HZ.out⟩
      case measure => simp [intOf]; omega
    · obtain rfl : k = m := by omega
      gi_wp2_with (refine ⟨trivial, ?_⟩; gi_at_call 38; refine (back_in Fence.wide 4 trivial rfl _ _ _ _).mono ?_; rintro e w' ⟨rfl, rfl⟩)
      have bS := Boxed.new wr 22 (.slice A n cap)
      have hQ : Row (wr.alloc (.cells #[.slice A n cap] 22)) w.heap.size n (fun j => .bool (TM.baseR R R.length j)) ∧ Boxed (wr.alloc (.cells #[.slice A n cap] 22)) wm.heap.size 78 (.slice (some ⟨w.heap.size, 0, none⟩) n n) ∧ Below w.heap.size w (wr.alloc (.cells #[.slice A n cap] 22)) := by
        rw [HH.out.2.1]
        exact ⟨HP.out.1.below (al _ _), HP.out.2.1.alloc _, HP.out.2.2.alloc HP.out.2.2.size _⟩
      have hbs : wm.heap.size < wr.heap.size := HP.out.2.1.lt
      have hw0 : (wr.alloc (.cells #[.slice A n cap] 22)).heap.size = wr.heap.size + 1 := by simp
      clear HP cB hlt hk
      obtain ⟨W0, hW0⟩ : ∃ W0, wr.alloc (.cells #[.slice A n cap] 22) = W0 := ⟨_, rfl⟩
      rw [hW0] at bS hQ hw0 ⊢
      clear hW0
      refine wpIn_rangeFunc_ownH rfl (by omega) (gf := 48) (lb := #[.pointer (some ⟨wr.heap.size, 0, none⟩)]) rfl trivial (enters_of Try.func48 (by kernel_rfl) rfl)
        (back_stops Fence.wide 4 trivial rfl (by omega) wr.heap.size w.heap.size A n cap L HH.out.1 hn (fun h0 a ha => by
          obtain ⟨b, o, e, h⟩ := HH.out.2.2.1.ly (by rw [HH.out.1]; exact h0)
          rw [ha] at e; injection e with e; rw [e]; exact h.1) W0 (by omega) bS (HH.out.2.2.1.below hQ.2.2))
        (fun h h' => KpB.trans h h') (fun W l o o' h1 h2 h3 h4 => ⟨belowK_b (w := W0) (by omega) W l o o' h1 h2 h3 h4, fun o2 ho2 => by
          rw [World.putObj_heap_other (by omega)]; exact ho2⟩) (Below.refl _ _) (fun _ => rfl)
        (fun pre W => (Row W w.heap.size n (fun j => .bool (TM.fdB L (TM.baseR R R.length) pre j)) ∧ Boxed W wm.heap.size 78 (.slice (some ⟨w.heap.size, 0, none⟩) n n)) ∧ Below w.heap.size w W)
        (fun _ _ _ => False)
        (OwnFrom.and (OwnFrom.and (Own.from (row_own w.heap.size n (fun pre j => Value.bool (TM.fdB L (TM.baseR R R.length) pre j))) _) (Own.from (boxed_own _ _ _) _)) (ownFrom_below (Nat.le_refl _) (by omega)))
        (fun _ _ _ _ _ hs _ _ => hs)
        ⟨⟨hQ.1, hQ.2.1⟩, hQ.2.2⟩
        (fun x a' W => ∃ Bx, w.heap.size < Bx ∧ NAt W Bx (TM.nat0 L x.1) ∧ a' = { tmps := #[Value.slice A n cap, Value.slice B k c, undef, undef, Value.slice none 0 0,
          Value.pointer (some { block := wm.heap.size, off := 0 }), undef, u7, .int .i64 (x.1 : Int), .pointer (some ⟨Bx, 0, none⟩), Value.slice A n cap,
          Value.int IntKind.i64 ↑n, Value.slice (some { block := w.heap.size, off := 0 }) n n, Value.slice B k c,
          Value.int IntKind.i64 ↑k, Value.int IntKind.i64 ↑k, Value.bool false, u17, u18, u19, u20, u21, u22,
          Value.slice A n cap, Value.func (Fn.func 48) #[] #[Value.pointer (some { block := wr.heap.size, off := 0 })],
          .int .i64 (x.1 : Int), .agg #[.int .i64 (TM.nat0 L x.1).1, .int .i64 (TM.nat0 L x.1).2.1, .int .i64 (TM.nat0 L x.1).2.2.1, .int .u32 (TM.nat0 L x.1).2.2.2], undef, undef, undef, undef, undef, undef, undef, undef, undef, undef, undef, undef, undef, undef, undef, undef, undef, undef, undef, undef, undef, undef, undef, undef, undef, undef, undef], defers := [] })
        (fun x a' _ X Y row hs hg hr => by obtain ⟨Bx, h1, h2, h3⟩ := hs; exact ⟨Bx, h1, nat_own Bx (fun (_ : Unit) => TM.nat0 L x.1) () X Y row h2 hg (fun r e => (hr r e).2), h3⟩)
        ?assign ?body ?done ?stop
      case assign =>
        rintro l pre x W K ⟨⟨hRw, bI1⟩, hB1⟩ hK
        simp only [encB]
        obtain ⟨y, hnd⟩ : ∃ y, TM.nat0 L x.1 = y := ⟨_, rfl⟩
        rw [hnd] at hK ⊢
        obtain ⟨xo, xa, xb, xk⟩ := y
        gi_wp2
        exact hK _ _ ((KeepsOthers.alloc _ _).from _) (kpB_of_below (al _ _) hB1.size) ⟨⟨hRw.below (al _ _), bI1.alloc _⟩, hB1.alloc hB1.size _⟩ ⟨W.heap.size, hRw.lt, NAt.new W _ _ _ _, rfl⟩
      case body =>
        rintro l pre x a' W hl' ⟨r, hr⟩ ⟨⟨hRw, bI1⟩, hB1⟩ ⟨Bx, hBx, hN, rfl⟩ hlt
        obtain ⟨x, hx⟩ := x
        have hst := TM.fdB_snoc L (TM.baseR R R.length) pre ⟨x, hx⟩
        have hm := TM.may_ok (HH.out.2.2.2.2.1.2 x (by rw [HH.out.1]; exact hx))
        simp only at hN hst
        have HS := hid (show TrSt w W W W0.heap.size wr.heap.size Bx wm.heap.size w.heap.size n (TM.nat0 L x) (TM.fdB L (TM.baseR R R.length) pre) from ⟨KeepsFrom.refl _ _, KpB.refl _ _ _, hN, bI1, hRw, hB1⟩)
        have hBi : wm.heap.size ≠ w.heap.size := by omega
        have hBs : wr.heap.size ≠ w.heap.size := by omega
        have hBx2 : Bx ≠ w.heap.size := by omega
        have cI := bI1.cell
        have cX := hRw.cell x hx
        have i1 : (x : Int) < (n : Int) := by omega
        obtain ⟨q0, q1, q2, q3, _⟩ := hN.cells
        have hnd : ∃ y, TM.nat0 L x = y := ⟨_, rfl⟩
        obtain ⟨⟨xo, xa, xb, xk⟩, hnd⟩ := hnd
        rw [hnd] at HS hm hst q0 q1 q2 q3 ⊢
        simp only at hm q0 q1 q2 q3
        clear hRw bI1 hB1 hN
        obtain ⟨cc, hcc⟩ : ∃ cc, TM.fdB L (TM.baseR R R.length) pre x = cc := ⟨_, rfl⟩
        rw [hcc] at cX hst
        replace hcc := hid hcc
        cases cc with
        | false =>
          have HE := hid (show ∀ j, TM.fdB L (TM.baseR R R.length) (pre ++ [⟨x, hx⟩]) j = TM.fdB L (TM.baseR R R.length) pre j from fun j => by rw [hst]; simp)
          clear hst hm
          gi_wp2
          refine ⟨trivial, ?_⟩
          gi_wp2
          refine ⟨trivial, ?_⟩
          gi_wp2
          exact ⟨HS.out.kf, HS.out.kp, ⟨HS.out.rw.congr (fun j hj => by rw [HE.out]), HS.out.bx⟩, HS.out.bl⟩
        | true =>
          have HPt := hid (fun z hz W' => CallsIn.inRound l (callsIn_wide.2 (cparts xo xa xb xk z hz W') : CallsIn Fence.wide (5 - 1 - 1 - 1) Try.prog 39 _ W' _))
          by_cases h2 : xo ≤ 2
          · have hz : (if xo = 1 ∨ xo = 2 then 0 else if xo = 384 then 1 else 2 : Int) = 0 := by rw [if_pos (by rcases hm with h | h | h | h <;> first | omega | (have := TM.isA_12 h.1; omega))]
            have HE := hid (show ∀ j, TM.fdB L (TM.baseR R R.length) (pre ++ [⟨x, hx⟩]) j = TM.fdB L (TM.baseR R R.length) pre j from fun j => by
              rw [hst]; unfold TM.parts; rw [if_pos h2]; simp)
            have HP1 := hid (HPt.out 0 hz)
            have HP2 := hid (HPt.out 0 hz)
            clear hst hm HPt hz h2
            gi_wp2_with (first
              | (refine ⟨trivial, ?_⟩; gi_at_call 39; refine (HP1.out _).mono ?_; clear HP1; rintro e w1 ⟨rfl, hb⟩; have HS1 := hid (HS.out.below hb); clear hb q0 q1 q2 q3 cI cX; have cI := HS1.out.bx.cell; have cX := HS1.out.rw.cell x hx; rw [hcc.out] at cX; obtain ⟨q0, q1, q2, q3, _⟩ := HS1.out.nd.cells)
              | (refine ⟨trivial, ?_⟩; gi_at_call 39; refine (HP2.out _).mono ?_; clear HP2; rintro e w2 ⟨rfl, hb⟩; have HS2 := hid (HS1.out.below hb); clear hb q0 q1 q2 q3 cI cX))
            exact ⟨HS2.out.kf, HS2.out.kp, ⟨HS2.out.rw.congr (fun j hj => by rw [HE.out]), HS2.out.bx⟩, HS2.out.bl⟩
          · have ha : 0 ≤ xa ∧ xa < x := by rcases hm with h | h | h | h <;> omega
            obtain ⟨a1, rfl⟩ : ∃ a1 : Nat, xa = a1 := ⟨xa.toNat, by omega⟩
            have ha1 : a1 < n := by omega
            have i3 : (a1 : Int) < (n : Int) := by omega
            have hax : x ≠ a1 := by omega
            by_cases h3 : xo = 384
            · subst h3
              have HE := hid (show ∀ j, TM.fdB L (TM.baseR R R.length) (pre ++ [⟨x, hx⟩]) j = (TM.fdB L (TM.baseR R R.length) pre j || decide (j = a1)) from fun j => by
                rw [hst]; unfold TM.parts; rw [if_neg h2, if_pos rfl]; simp)
              have HP1 := hid (HPt.out 1 rfl)
              have HP2 := hid (HPt.out 1 rfl)
              clear hst hm HPt h2
              gi_wp2_with (first
                | (refine ⟨trivial, ?_⟩; gi_at_call 39; refine (HP1.out _).mono ?_; clear HP1; rintro e w1 ⟨rfl, hb⟩; have HS1 := hid (HS.out.below hb); have HS2 := hid (HS1.out.set (U := fun j => TM.fdB L (TM.baseR R R.length) pre j || decide (j = a1)) a1 ha1 hBx2 hBi hBs (Nat.le_refl _) (fun j => rfl)); clear hb q0 q1 q2 q3 cI cX; have cI := HS1.out.bx.cell; have cA := HS1.out.rw.cell a1 ha1; have fA := HS1.out.rw.froz a1 ha1; obtain ⟨q0, q1, q2, q3, _⟩ := HS1.out.nd.cells; have cI2 := HS2.out.bx.cell; obtain ⟨r0, r1, r2, r3, _⟩ := HS2.out.nd.cells; have cX2 := HS2.out.rw.cell x hx; simp only [hcc.out, Bool.true_or] at cX2)
                | (refine ⟨trivial, ?_⟩; gi_at_call 39; refine (HP2.out _).mono ?_; clear HP2; rintro e w2 ⟨rfl, hb⟩; have HS3 := hid (HS2.out.below hb); clear hb))
              exact ⟨HS3.out.kf, HS3.out.kp, ⟨HS3.out.rw.congr (fun j hj => by rw [HE.out]), HS3.out.bx⟩, HS3.out.bl⟩
            · have hb0 : 0 ≤ xb ∧ xb < x := by rcases hm with h | h | h | h <;> omega
              obtain ⟨b1, rfl⟩ : ∃ b1 : Nat, xb = b1 := ⟨xb.toNat, by omega⟩
              have hb1 : b1 < n := by omega
              have i4 : (b1 : Int) < (n : Int) := by omega
              have hz : (if xo = 1 ∨ xo = 2 then 0 else if xo = 384 then 1 else 2 : Int) = 2 := by rw [if_neg (by omega), if_neg h3]
              have HE := hid (show ∀ j, TM.fdB L (TM.baseR R R.length) (pre ++ [⟨x, hx⟩]) j = ((TM.fdB L (TM.baseR R R.length) pre j || decide (j = a1)) || decide (j = b1)) from fun j => by
                rw [hst]; unfold TM.parts; rw [if_neg h2, if_neg h3]; simp [Bool.or_assoc])
              have HP1 := hid (HPt.out 2 hz)
              have HP2 := hid (HPt.out 2 hz)
              clear hst hm HPt h2 h3 hz
              gi_wp2_with (first
                | (refine ⟨trivial, ?_⟩; gi_at_call 39; refine (HP1.out _).mono ?_; clear HP1; rintro e w1 ⟨rfl, hb⟩; have HS1 := hid (HS.out.below hb); have HS2 := hid (HS1.out.set (U := fun j => TM.fdB L (TM.baseR R R.length) pre j || decide (j = a1)) a1 ha1 hBx2 hBi hBs (Nat.le_refl _) (fun j => rfl)); clear hb q0 q1 q2 q3 cI cX; have cI := HS1.out.bx.cell; have cA := HS1.out.rw.cell a1 ha1; have fA := HS1.out.rw.froz a1 ha1; obtain ⟨q0, q1, q2, q3, _⟩ := HS1.out.nd.cells; have cI2 := HS2.out.bx.cell; obtain ⟨r0, r1, r2, r3, _⟩ := HS2.out.nd.cells; have cX2 := HS2.out.rw.cell x hx; simp only [hcc.out, Bool.true_or] at cX2)
                | (refine ⟨trivial, ?_⟩; gi_at_call 39; refine (HP2.out _).mono ?_; clear HP2; rintro e w2 ⟨rfl, hb⟩; have HS3 := hid (HS2.out.below hb); have HS4 := hid (HS3.out.set (U := fun j => (TM.fdB L (TM.baseR R R.length) pre j || decide (j = a1)) || decide (j = b1)) b1 hb1 hBx2 hBi hBs (Nat.le_refl _) (fun j => rfl)); clear hb q0 q1 q2 q3 cI cA fA cI2 cX2 r0 r1 r2 r3; have cI := HS3.out.bx.cell; have cA := HS3.out.rw.cell b1 hb1; have fA := HS3.out.rw.froz b1 hb1; obtain ⟨q0, q1, q2, q3, _⟩ := HS3.out.nd.cells))
              exact ⟨HS4.out.kf, HS4.out.kp, ⟨HS4.out.rw.congr (fun j hj => by rw [HE.out]), HS4.out.bx⟩, HS4.out.bl⟩
      case done =>
        rintro D ys W hD rfl ⟨⟨hRw, bI1⟩, hB1⟩ hK
        have cI := bI1.cell
        have HF := hid (show ∀ j, TM.fdB L (TM.baseR R R.length) (dn n n) j = TM.inR L R j from fun j => by have := TM.fdB_all HH.out.2.2.2.2.1 R j; rw [HH.out.1] at this; exact this)
        gi_wp2
        refine ⟨by simp, .inl ⟨_, _, rfl, run_takeDeferred hK, ?_⟩⟩
        exact ⟨_, results_tmp rfl _ _ _, _, rfl, (row_own w.heap.size n (fun (_ : Unit) j => Value.bool (TM.inR L R j)) () _ _ _ (hRw.congr (fun j hj => by rw [HF.out])) (grownBy_putObj' _ D (.deferred none)) (fun r e => by cases e; exact ⟨_, hK, rfl⟩)), hB1.trans (belowK_b (w := w) (Nat.le_refl _) W D _ _ (by omega) hK rfl rfl), Nat.le_refl _⟩
      case stop =>
        rintro D c pre W _ _ h _
        exact h.elim
end Go.Proofs.Ytapbeffjnpgglab.TB
