/-
  The program's pool of layer 11: its memory, New, At, Nodes, Put of what may not stand, as walks over the Go text.
-/
import Derived.Test.YtmjeoknndnbglaaTerCodK
namespace Go.Proofs.Ytmjeoknndnbglaa.TB
open Go.ChangeShapes Go.WideShapes Go.ChangeAt Go.RowKit Go.Maps
open Go.Sort hiding Below
set_option linter.unusedVariables false
set_option maxRecDepth 100000

/-- the map of a pool that holds L: its block, or none -/
def Mp (W : World) (mo : Option Nat) (L : List TM.N) : Prop := (mo = none ∧ L = []) ∨ ∃ mb, mo = some mb ∧ ∃ D : DataW Unit, W.ownsMap Try.prog 56 (plainElem Try.prog 3) mb L.length D ∧
  ∀ x, TM.okN x → (∀ i, TM.fnd L x = some i → Maps.has D (kn x) = true ∧ D.atKey (kn x) (.lit (.int .i64 0)) = .lit (.int .i64 (i : Int))) ∧ (TM.fnd L x = none → Maps.has D (kn x) = false)
/-- a pool that holds L, at block b -/
structure Pb (W : World) (b : Nat) (a : Option Addr) (c : Nat) (mo : Option Nat) (L : List TM.N) : Prop where
  at_ : W.heap[b]? = some (.cells #[.slice a L.length c, .map mo] 84 (0, 0))
  own : OwnN W 0 a L.length c L
  map : Mp W mo L
  len : L.length ≤ 65536
  ok : ∀ x ∈ L, TM.okN x
  n1 : blk a ≠ some b
  n2 : mo ≠ some b
  n3 : ∀ m, mo = some m → blk a ≠ some m
def Fb (b : Nat) (a : Option Addr) (mo : Option Nat) (k : Nat) : Prop := k = b ∨ blk a = some k ∨ mo = some k
def Pl : PoolIs := fun W F v L => ∃ b a c mo, v = .pointer (some ⟨b, 0, none⟩) ∧ F = Fb b a mo ∧ Pb W b a c mo L
theorem Mp.keep {W W' : World} {mo : Option Nat} {L : List TM.N} (h : Mp W mo L) (hk : ∀ m, mo = some m → W'.heap[m]? = W.heap[m]?) : Mp W' mo L := by
  rcases h with h | ⟨mb, rfl, D, ⟨es, clock, hb, h1⟩, h2⟩
  · exact .inl h
  · exact .inr ⟨mb, rfl, D, ⟨es, clock, by rw [hk mb rfl]; exact hb, h1⟩, h2⟩
theorem OwnN.keep {W W' : World} {base n cap : Nat} {a : Option Addr} {l : List TM.N} (h : OwnN W base a n cap l) (hk : ∀ b, blk a = some b → W'.heap[b]? = W.heap[b]?) : OwnN W' base a n cap l := by
  refine ⟨⟨h.own.1, ?_⟩, h.len⟩
  rcases h.own.2 with h1 | ⟨g, c, cur, h1, h2, h3, h4⟩
  · exact .inl h1
  · have hg : blk a = some g := by
      injection h1 with h1
      rw [h1]; rfl
    exact .inr ⟨g, c, cur, h1, h2, by rw [hk g hg]; exact h3, h4⟩
theorem Pb.keep {W W' : World} {b : Nat} {a : Option Addr} {c : Nat} {mo : Option Nat} {L : List TM.N} (h : Pb W b a c mo L) (hk : ∀ k, Fb b a mo k → W'.heap[k]? = W.heap[k]?) : Pb W' b a c mo L :=
  ⟨by rw [hk b (.inl rfl)]; exact h.at_, h.own.keep (fun k e => hk k (.inr (.inl e))), h.map.keep (fun k e => hk k (.inr (.inr e))), h.len, h.ok, h.n1, h.n2, h.n3⟩
theorem Pb.lt {W : World} {b : Nat} {a : Option Addr} {c : Nat} {mo : Option Nat} {L : List TM.N} (h : Pb W b a c mo L) (k : Nat) (hk : Fb b a mo k) : k < W.heap.size := by
  rcases hk with rfl | hk | hk
  · exact (Array.getElem?_eq_some_iff.1 h.at_).1
  · obtain ⟨A, e1, e2⟩ := blk_at hk
    rw [← e2]; exact (h.own.at A e1).2
  · rcases h.map with ⟨e, _⟩ | ⟨mb, e, D, hm, _⟩
    · rw [e] at hk; cases hk
    · rw [e] at hk; injection hk with hk; rw [← hk]; exact hm.lt
theorem Pb.below {W W' : World} {b : Nat} {a : Option Addr} {c : Nat} {mo : Option Nat} {L : List TM.N} (h : Pb W b a c mo L) (hb : Below W.heap.size W W') : Pb W' b a c mo L := h.keep (fun k hk => hb.block k (h.lt k hk))
theorem Pb.cells {W : World} {b : Nat} {a : Option Addr} {c : Nat} {mo : Option Nat} {L : List TM.N} (h : Pb W b a c mo L) : W.cell? ⟨b, 0, none⟩ = some (.slice a L.length c) ∧ W.cell? ⟨b, 1, none⟩ = some (.map mo) ∧ ∀ j, W.frozen? ⟨b, j, none⟩ = false := by
  have := h.at_
  exact ⟨by simp [World.cell?, this], by simp [World.cell?, this], fun j => by simp [World.frozen?, this]⟩
theorem pl_keep (W W' : World) (F : Nat → Prop) (v : Value) (L : List TM.N) (h : Pl W F v L) (hs : W.heap.size ≤ W'.heap.size) (hk : ∀ b, F b → W'.heap[b]? = W.heap[b]?) : Pl W' F v L := by
  obtain ⟨b, a, c, mo, rfl, rfl, h⟩ := h
  exact ⟨b, a, c, mo, rfl, rfl, h.keep hk⟩
theorem pl_lt (W : World) (F : Nat → Prop) (v : Value) (L : List TM.N) (h : Pl W F v L) (b : Nat) (hb : F b) : b < W.heap.size := by
  obtain ⟨b', a, c, mo, rfl, rfl, h⟩ := h
  exact h.lt b hb

set_option maxHeartbeats 1600000 in
theorem pl_new (W : World) : Calls Try.prog 22 #[] W fun e w' => ∃ v F, e = .returned v ∧ Pl w' F v [] ∧ Below W.heap.size W w' ∧ (∀ b, F b → W.heap.size ≤ b) := by
  have HP := hid (show Pb (W.alloc (.cells #[.slice none 0 0, .map none] 84)) W.heap.size none 0 none [] from
    ⟨World.alloc_heap_new W (.cells #[.slice none 0 0, .map none] 84), OwnN.nil _ _, .inl ⟨rfl, rfl⟩, by simp, fun x hx => (by cases hx), by simp [blk], by simp, fun m hm => (by cases hm)⟩)
  go_enter Try.func22, Try.ntmps22
  go_wp2
  go_ret
  refine ⟨_, _, rfl, ⟨W.heap.size, none, 0, none, rfl, rfl, HP.out⟩, al _ _, ?_⟩
  rintro b (rfl | h | h)
  · exact Nat.le_refl _
  · cases h
  · cases h

set_option maxHeartbeats 1600000 in
theorem pn_ok : PnOk := by
  intro o a b k ok W
  have HB := hid (al W (.cells #[.int .i64 o, .int .i64 a, .int .i64 b, .int .u32 k] 56))
  clear ok
  go_enter Try.func23, Try.ntmps23
  go_wp2
  go_ret2
  exact ⟨rfl, HB.out⟩

set_option maxHeartbeats 1600000 in
theorem pl_no (W : World) (F : Nat → Prop) (v : Value) (L : List TM.N) (o a b k : Int) (ok : TM.okN (o, a, b, k)) (h : Pl W F v L) (hm : TM.may (o, a, b, k) L.length = false) :
    Calls Try.prog 23 #[v, .agg #[.int .i64 o, .int .i64 a, .int .i64 b, .int .u32 k]] W fun e w' => e = .returned (.tuple #[.int .i64 0, .int .i64 3]) ∧ Below W.heap.size W w' := by
  obtain ⟨pb, pa, pc, mo, rfl, rfl, hP⟩ := h
  have HB := hid (al W (.cells #[.int .i64 o, .int .i64 a, .int .i64 b, .int .u32 k] 56))
  have hP2 := hP.below HB.out
  obtain ⟨c0, c1, cf⟩ := hP2.cells
  have HC := hid (fun W => cstands o a b k ok L.length W false hm)
  clear hP hP2 hm ok
  obtain ⟨n, hn⟩ : ∃ n, L.length = n := ⟨_, rfl⟩
  rw [hn] at c0 HC
  clear hn
  go_enter Try.func23, Try.ntmps23
  go_wp2_with (go_at_call 32; refine (HC.out _).mono ?_; rintro e w1 ⟨rfl, hb⟩; have HB2 := stp HB hb; clear hb HC HB c0 c1 cf)
  go_ret2
  exact ⟨rfl, HB2.out⟩

set_option maxHeartbeats 1600000 in
theorem pl_none (W : World) (F : Nat → Prop) (v : Value) (L : List TM.N) (i : Int) (h : Pl W F v L) (hi : i < 0 ∨ (L.length : Int) ≤ i) (hw : (Lit.int .i64 i).wf = true) :
    Calls Try.prog 26 #[v, .int .i64 i] W fun e w' => e = .returned (.tuple #[.agg #[.int .i64 0, .int .i64 0, .int .i64 0, .int .u32 0], .bool false]) ∧ Below W.heap.size W w' := by
  obtain ⟨pb, pa, pc, mo, rfl, rfl, hP⟩ := h
  have HB := hid (al W (.cells #[.int .i64 0, .int .i64 0, .int .i64 0, .int .u32 0] 56))
  have hP2 := hP.below HB.out
  obtain ⟨c0, c1, cf⟩ := hP2.cells
  obtain ⟨n, hn⟩ : ∃ n, L.length = n := ⟨_, rfl⟩
  rw [hn] at c0 hi
  have HN := hid (NAt.new W 0 0 0 0)
  obtain ⟨q0, q1, q2, q3, qf⟩ := HN.out.cells
  have HZ := hid (And.intro (NAt.new W 0 0 0 0) (al W (.cells #[.int .i64 0, .int .i64 0, .int .i64 0, .int .u32 0] 56)))
  clear hP hP2 hw hn
  by_cases h0 : i < 0
  · have d0 : decide (i < 0) = true := decide_eq_true h0
    clear hi h0
    go_enter Try.func26, Try.ntmps26
    go_wp2
    obtain ⟨hZ, hZ2⟩ := HZ.out
    clear HZ HN q0 q1 q2 q3 qf c0 c1 cf
    refine bodyPost_ret (results_node2 (p := 4) (u := 5) (x := (0, 0, 0, 0)) rfl _ _ rfl hZ) rfl ?_
    exact ⟨rfl, hZ2⟩
  · have d0 : decide (i < 0) = false := decide_eq_false h0
    have d1 : decide ((n : Int) ≤ i) = true := decide_eq_true (by omega)
    clear hi h0
    go_enter Try.func26, Try.ntmps26
    go_wp2
    obtain ⟨hZ, hZ2⟩ := HZ.out
    clear HZ HN q0 q1 q2 q3 qf c0 c1 cf
    refine bodyPost_ret (results_node2 (p := 4) (u := 5) (x := (0, 0, 0, 0)) rfl _ _ rfl hZ) rfl ?_
    exact ⟨rfl, hZ2⟩

set_option maxHeartbeats 1600000 in
theorem pl_has (W : World) (F : Nat → Prop) (v : Value) (L : List TM.N) (i : Nat) (h : Pl W F v L) (hi : i < L.length) (o a b k : Int) (hx : L[i] = (o, a, b, k)) :
    Calls Try.prog 26 #[v, .int .i64 i] W fun e w' => e = .returned (.tuple #[.agg #[.int .i64 o, .int .i64 a, .int .i64 b, .int .u32 k], .bool true]) ∧ Below W.heap.size W w' := by
  obtain ⟨pb, pa, pc, mo, rfl, rfl, hP⟩ := h
  have HB := hid (al W (.cells #[.int .i64 0, .int .i64 0, .int .i64 0, .int .u32 0] 56))
  have hP2 := hP.below HB.out
  obtain ⟨c0, c1, cf⟩ := hP2.cells
  obtain ⟨g, gl, rfl, hly⟩ := hP2.own.lies.ly (by omega)
  obtain ⟨r0, r1, r2, r3⟩ := hly.2 i hi
  rw [hx] at r0 r1 r2 r3
  have hlen := hP.len
  obtain ⟨n, hn⟩ : ∃ n, L.length = n := ⟨_, rfl⟩
  rw [hn] at c0
  have HN := hid (NAt.new W 0 0 0 0)
  obtain ⟨q0, q1, q2, q3, qf⟩ := HN.out.cells
  have HZ := hid (And.intro (NAt.new W o a b k) (al W (.cells #[.int .i64 o, .int .i64 a, .int .i64 b, .int .u32 k] 56)))
  have d0 : decide ((i : Int) < 0) = false := decide_eq_false (by omega)
  have d1 : decide ((n : Int) ≤ (i : Int)) = false := decide_eq_false (by omega)
  have i1 : (i : Int) < (n : Int) := by omega
  have i2 : n ≤ 65536 := by omega
  clear hP hP2 hn hx hly hi hlen
  simp only at r0 r1 r2 r3
  go_enter Try.func26, Try.ntmps26
  go_wp2
  obtain ⟨hZ, hZ2⟩ := HZ.out
  clear HZ HN q0 q1 q2 q3 qf c0 c1 cf r0 r1 r2 r3
  refine bodyPost_ret (results_node2 (p := 4) (u := 5) (x := (o, a, b, k)) rfl _ _ rfl hZ) rfl ?_
  exact ⟨rfl, hZ2⟩
end Go.Proofs.Ytmjeoknndnbglaa.TB
