/-
  The program's renamed, only, Only of layer 11, as walks over the Go text.
-/
import Derived.Test.YtapbeffjnpgglabTerCodH
import Derived.Test.YtapbeffjnpgglabTerCodE
import Derived.Test.YtapbeffjnpgglabT1
namespace Go.Proofs.Ytapbeffjnpgglab.TB
open Go.ChangeShapes Go.WideShapes Go.ChangeAt Go.RowKit
open Go.Sort hiding Below
set_option linter.unusedVariables false
set_option maxRecDepth 100000

theorem ctrees (A : Option Addr) (n cap : Nat) (L : List TM.N) (hln : L.length = n) (hL : TM.Row L) (B : Option Addr) (m c : Nat) (R : List Int) (hlm : R.length = m) (hm : m ≤ 65536) (hin : inB L R) (w : World) (hl : LiesN w A L) (hR : LiesI w B R) :
    Calls Try.prog 46 #[.slice A n cap, .slice B m c] w fun e w' => ∃ g, e = .returned (.slice (some ⟨g, 0, none⟩) n n) ∧ Row w' g n (fun j => .bool (TM.inR L R j)) ∧ Below w.heap.size w w' ∧ w.heap.size ≤ g :=
  callsIn_wide.1 (trees_in A n cap L hln hL B m c R hlm hm hin w hl hR)

/-- a node is written over a node -/
def nput (W : World) (b : Nat) (x : TM.N) : World := (((W.setCell ⟨b, 0, none⟩ (.int .i64 x.1)).setCell ⟨b, 1, none⟩ (.int .i64 x.2.1)).setCell ⟨b, 2, none⟩ (.int .i64 x.2.2.1)).setCell ⟨b, 3, none⟩ (.int .u32 x.2.2.2)
theorem NAt.put {W : World} {b : Nat} {y : TM.N} (x : TM.N) (h : NAt W b y) : NAt (nput W b x) b x := by
  have h0 : (W.setCell ⟨b, 0, none⟩ (.int .i64 x.1)).heap[b]? = some (.cells #[.int .i64 x.1, .int .i64 y.2.1, .int .i64 y.2.2.1, .int .u32 y.2.2.2] 40 (0, 0)) := set_cells _ h
  have h1 : ((W.setCell ⟨b, 0, none⟩ (.int .i64 x.1)).setCell ⟨b, 1, none⟩ (.int .i64 x.2.1)).heap[b]? = some (.cells #[.int .i64 x.1, .int .i64 x.2.1, .int .i64 y.2.2.1, .int .u32 y.2.2.2] 40 (0, 0)) := set_cells _ h0
  have h2 : (((W.setCell ⟨b, 0, none⟩ (.int .i64 x.1)).setCell ⟨b, 1, none⟩ (.int .i64 x.2.1)).setCell ⟨b, 2, none⟩ (.int .i64 x.2.2.1)).heap[b]? = some (.cells #[.int .i64 x.1, .int .i64 x.2.1, .int .i64 x.2.2.1, .int .u32 y.2.2.2] 40 (0, 0)) := set_cells _ h1
  exact set_cells _ h2
theorem nput_below {w W : World} {b : Nat} {x : TM.N} (h : Below w.heap.size w W) (hb : w.heap.size ≤ b) : Below w.heap.size w (nput W b x) :=
  (((h.setCell hb _).setCell hb _).setCell hb _).setCell hb _
theorem results_node {fn : Func} {p : Tmp} (h : fn.results = #[.cell p 40]) (tmps : Array Value) (w : World) {b : Nat} {x : TM.N} (hp : tmps[p]?.getD undef = .pointer (some ⟨b, 0, none⟩)) (hA : NAt w b x) :
    (results fn tmps).run Try.prog w = .ok (.agg #[.int .i64 x.1, .int .i64 x.2.1, .int .i64 x.2.2.1, .int .u32 x.2.2.2]) w := by
  obtain ⟨a0, a1, a2, a3, a4⟩ := hA.cells
  simp [results, h, hp, go_sem, a0, a1, a2, a3]
theorem results_node2 {fn : Func} {p u : Tmp} (h : fn.results = #[.cell p 40, .tmp u]) (tmps : Array Value) (w : World) {b : Nat} {x : TM.N} (hp : tmps[p]?.getD undef = .pointer (some ⟨b, 0, none⟩)) (hA : NAt w b x) :
    (results fn tmps).run Try.prog w = .ok (.tuple #[.agg #[.int .i64 x.1, .int .i64 x.2.1, .int .i64 x.2.2.1, .int .u32 x.2.2.2], tmps[u]?.getD undef]) w := by
  obtain ⟨a0, a1, a2, a3, a4⟩ := hA.cells
  simp [results, h, hp, go_sem, a0, a1, a2, a3]
/-- the node's copy, the answer's block, and the row of places -/
structure RnSt (w W : World) (g n : Nat) (V : Nat → Nat) (x y : TM.N) : Prop where
  n1 : NAt W w.heap.size x
  n2 : NAt W (w.heap.size + 1) y
  rw : Row W g n (fun j => .int .i64 ((V j : Nat) : Int))
  lt : g < w.heap.size
  bl : Below w.heap.size w W
theorem RnSt.new {w : World} {g n : Nat} {V : Nat → Nat} (o a b k : Int) (hR : Row w g n (fun j => .int .i64 ((V j : Nat) : Int))) : RnSt w ((w.alloc (.cells #[.int .i64 o, .int .i64 a, .int .i64 b, .int .u32 k] 40)).alloc (.cells #[.int .i64 0, .int .i64 0, .int .i64 0, .int .u32 0] 40)) g n V (o, a, b, k) (0, 0, 0, 0) := by
  have hs : (w.alloc (.cells #[.int .i64 o, .int .i64 a, .int .i64 b, .int .u32 k] 40)).heap.size = w.heap.size + 1 := by simp
  have hN2 := NAt.new (w.alloc (.cells #[.int .i64 o, .int .i64 a, .int .i64 b, .int .u32 k] 40)) 0 0 0 0
  rw [hs] at hN2
  exact ⟨(NAt.new w o a b k).alloc _, hN2, (hR.below (al _ _)).below (al _ _), hR.lt, (stp (al w _) (al _ _)).out⟩
theorem RnSt.below {w W W' : World} {g n : Nat} {V : Nat → Nat} {x y : TM.N} (h : RnSt w W g n V x y) (hb : Below W.heap.size W W') : RnSt w W' g n V x y :=
  ⟨h.n1.below hb, h.n2.below hb, h.rw.below hb, h.lt, h.bl.trans (hb.mono h.bl.size)⟩
theorem RnSt.set1 {w W : World} {g n : Nat} {V : Nat → Nat} {o a b k : Int} {y : TM.N} (h : RnSt w W g n V (o, a, b, k) y) (a' : Int) : RnSt w (W.setCell ⟨w.heap.size, 1, none⟩ (.int .i64 a')) g n V (o, a', b, k) y :=
  ⟨h.n1.set1 a', h.n2.off (by omega), h.rw.other _ _ _ (by have := h.lt; omega), h.lt, h.bl.setCell (Nat.le_refl _) _⟩
theorem RnSt.set2 {w W : World} {g n : Nat} {V : Nat → Nat} {o a b k : Int} {y : TM.N} (h : RnSt w W g n V (o, a, b, k) y) (b' : Int) : RnSt w (W.setCell ⟨w.heap.size, 2, none⟩ (.int .i64 b')) g n V (o, a, b', k) y :=
  ⟨h.n1.set2 b', h.n2.off (by omega), h.rw.other _ _ _ (by have := h.lt; omega), h.lt, h.bl.setCell (Nat.le_refl _) _⟩

set_option maxHeartbeats 3200000 in
theorem crenamed (x : TM.N) (i : Nat) (hx : TM.may x i = true) (g n c : Nat) (hi : i ≤ n) (hn : n ≤ 65536) (V : Nat → Nat) (w : World) (hR : Row w g n (fun j => .int .i64 ((V j : Nat) : Int))) :
    Calls Try.prog 47 #[.agg #[.int .i64 x.1, .int .i64 x.2.1, .int .i64 x.2.2.1, .int .u32 x.2.2.2], .slice (some ⟨g, 0, none⟩) n c] w fun e w' => e = .returned (.agg #[.int .i64 (TM.moved x V).1, .int .i64 (TM.moved x V).2.1, .int .i64 (TM.moved x V).2.2.1, .int .u32 (TM.moved x V).2.2.2]) ∧ Below w.heap.size w w' := by
  have hm := TM.may_ok hx
  obtain ⟨xo, xa, xb, xk⟩ := x
  simp only at hm ⊢
  have HS := hid (RnSt.new xo xa xb xk hR)
  clear hR hx
  by_cases h2 : xo ≤ 2
  · have hz : (if xo = 1 ∨ xo = 2 then 0 else if xo = 384 then 1 else 2 : Int) = 0 := by rw [if_pos (by rcases hm with h | h | h | h <;> first | omega | (have := TM.isA_12 h.1; omega))]
    have hmv : TM.moved (xo, xa, xb, xk) V = (xo, xa, xb, xk) := by unfold TM.moved; rw [if_pos h2]
    rw [hmv]
    have HP1 := hid (fun W => cparts xo xa xb xk 0 hz W)
    have HP2 := hid (fun W => cparts xo xa xb xk 0 hz W)
    clear hm h2 hmv hz
    go_enter Try.func47, Try.ntmps47
    go_wp2_with (first
      | (go_at_call 39; refine (HP1.out _).mono ?_; clear HP1; rintro e w1 ⟨rfl, hb⟩; have HS1 := hid (HS.out.below hb); clear hb HS; obtain ⟨q0, q1, q2, q3, _⟩ := HS1.out.n1.cells; obtain ⟨r0, r1, r2, r3, rf⟩ := HS1.out.n2.cells)
      | (go_at_call 39; refine (HP2.out _).mono ?_; clear HP2; rintro e w2 ⟨rfl, hb⟩; have HS2 := hid (HS1.out.below hb); clear hb HS1 q0 q1 q2 q3 r0 r1 r2 r3 rf; obtain ⟨q0, q1, q2, q3, _⟩ := HS2.out.n1.cells; obtain ⟨r0, r1, r2, r3, rf⟩ := HS2.out.n2.cells))
    have hZ := HS2.out.n2.put (xo, xa, xb, xk)
    have hZ2 := nput_below (x := (xo, xa, xb, xk)) HS2.out.bl (Nat.le_succ _)
    unfold nput at hZ hZ2
    simp only at hZ hZ2
    clear HS2 q0 q1 q2 q3 r0 r1 r2 r3 rf
    refine bodyPost_ret (results_node (p := 4) (x := (xo, xa, xb, xk)) rfl _ _ rfl hZ) rfl ?_
    exact ⟨rfl, hZ2⟩
  · have ha : 0 ≤ xa ∧ xa < i := by rcases hm with h | h | h | h <;> omega
    obtain ⟨a1, rfl⟩ : ∃ a1 : Nat, xa = a1 := ⟨xa.toNat, by omega⟩
    have ha1 : a1 < n := by omega
    have i3 : (a1 : Int) < (n : Int) := by omega
    by_cases h3 : xo = 384
    · subst h3
      have hmv : TM.moved (384, (a1 : Int), xb, xk) V = (384, ((V a1 : Nat) : Int), xb, xk) := by unfold TM.moved; rw [if_neg h2, if_pos rfl]; rfl
      rw [hmv]
      have HP1 := hid (fun W => cparts 384 (a1 : Int) xb xk 1 rfl W)
      have HP2 := hid (fun W => cparts 384 ((V a1 : Nat) : Int) xb xk 1 rfl W)
      clear hm h2 hmv
      go_enter Try.func47, Try.ntmps47
      go_wp2_with (first
        | (go_at_call 39; refine (HP1.out _).mono ?_; clear HP1; rintro e w1 ⟨rfl, hb⟩; have HS1 := hid (HS.out.below hb); clear hb HS; obtain ⟨q0, q1, q2, q3, qf⟩ := HS1.out.n1.cells; obtain ⟨r0, r1, r2, r3, rf⟩ := HS1.out.n2.cells; have cA := HS1.out.rw.cell a1 ha1; have HS2 := hid (HS1.out.set1 ((V a1 : Nat) : Int)); obtain ⟨s0, s1, s2, s3, sf⟩ := HS2.out.n1.cells; obtain ⟨u0, u1, u2, u3, uf⟩ := HS2.out.n2.cells)
        | (go_at_call 39; refine (HP2.out _).mono ?_; clear HP2; rintro e w2 ⟨rfl, hb⟩; have HS3 := hid (HS2.out.below hb); clear hb HS1 HS2 q0 q1 q2 q3 qf r0 r1 r2 r3 rf s0 s1 s2 s3 sf u0 u1 u2 u3 uf cA; obtain ⟨q0, q1, q2, q3, _⟩ := HS3.out.n1.cells; obtain ⟨r0, r1, r2, r3, rf⟩ := HS3.out.n2.cells))
      have hZ := HS3.out.n2.put (384, ((V a1 : Nat) : Int), xb, xk)
      have hZ2 := nput_below (x := (384, ((V a1 : Nat) : Int), xb, xk)) HS3.out.bl (Nat.le_succ _)
      unfold nput at hZ hZ2
      simp only at hZ hZ2
      clear HS3 q0 q1 q2 q3 r0 r1 r2 r3 rf
      refine bodyPost_ret (results_node (p := 4) (x := (384, ((V a1 : Nat) : Int), xb, xk)) rfl _ _ rfl hZ) rfl ?_
      exact ⟨rfl, hZ2⟩
    · have hb0 : 0 ≤ xb ∧ xb < i := by rcases hm with h | h | h | h <;> omega
      obtain ⟨b1, rfl⟩ : ∃ b1 : Nat, xb = b1 := ⟨xb.toNat, by omega⟩
      have hb1 : b1 < n := by omega
      have i4 : (b1 : Int) < (n : Int) := by omega
      have hz : (if xo = 1 ∨ xo = 2 then 0 else if xo = 384 then 1 else 2 : Int) = 2 := by rw [if_neg (by omega), if_neg h3]
      have hmv : TM.moved (xo, (a1 : Int), (b1 : Int), xk) V = (xo, ((V a1 : Nat) : Int), ((V b1 : Nat) : Int), xk) := by unfold TM.moved; rw [if_neg h2, if_neg h3]; rfl
      rw [hmv]
      have HP1 := hid (fun W => cparts xo (a1 : Int) (b1 : Int) xk 2 hz W)
      have HP2 := hid (fun W => cparts xo ((V a1 : Nat) : Int) (b1 : Int) xk 2 hz W)
      clear hm h2 h3 hmv hz
      go_enter Try.func47, Try.ntmps47
      go_wp2_with (first
        | (go_at_call 39; refine (HP1.out _).mono ?_; clear HP1; rintro e w1 ⟨rfl, hb⟩; have HS1 := hid (HS.out.below hb); clear hb HS; obtain ⟨q0, q1, q2, q3, qf⟩ := HS1.out.n1.cells; obtain ⟨r0, r1, r2, r3, rf⟩ := HS1.out.n2.cells; have cA := HS1.out.rw.cell a1 ha1; have HS2 := hid (HS1.out.set1 ((V a1 : Nat) : Int)); obtain ⟨s0, s1, s2, s3, sf⟩ := HS2.out.n1.cells; obtain ⟨u0, u1, u2, u3, uf⟩ := HS2.out.n2.cells)
        | (go_at_call 39; refine (HP2.out _).mono ?_; clear HP2; rintro e w2 ⟨rfl, hb⟩; have HS3 := hid (HS2.out.below hb); clear hb HS1 HS2 q0 q1 q2 q3 qf r0 r1 r2 r3 rf s0 s1 s2 s3 sf u0 u1 u2 u3 uf cA; obtain ⟨q0, q1, q2, q3, qf⟩ := HS3.out.n1.cells; obtain ⟨r0, r1, r2, r3, rf⟩ := HS3.out.n2.cells; have cA := HS3.out.rw.cell b1 hb1; have HS4 := hid (HS3.out.set2 ((V b1 : Nat) : Int)); obtain ⟨s0, s1, s2, s3, sf⟩ := HS4.out.n1.cells; obtain ⟨u0, u1, u2, u3, uf⟩ := HS4.out.n2.cells))
      have hZ := HS4.out.n2.put (xo, ((V a1 : Nat) : Int), ((V b1 : Nat) : Int), xk)
      have hZ2 := nput_below (x := (xo, ((V a1 : Nat) : Int), ((V b1 : Nat) : Int), xk)) HS4.out.bl (Nat.le_succ _)
      unfold nput at hZ hZ2
      simp only at hZ hZ2
      clear HS4 q0 q1 q2 q3 r0 r1 r2 r3 rf
      refine bodyPost_ret (results_node (p := 4) (x := (xo, ((V a1 : Nat) : Int), ((V b1 : Nat) : Int), xk)) rfl _ _ rfl hZ) rfl ?_
      exact ⟨rfl, hZ2⟩
end Go.Proofs.Ytapbeffjnpgglab.TB
