/-
  The instruction whose line it is, where the name is a code's: a walk over the Go text for each way.
-/
import Derived.Test.YtapjjpjiggjlfaaDoorAsmPars
namespace Go.Proofs.YtapjjpjiggjlfaaDoor.B
open Go.ChangeShapes Go.WideShapes Go.ChangeAt Go.RowKit
open Go.Sort hiding Below
set_option linter.unusedVariables false

theorem hAoff {W W' : World} {b b' : Nat} {c t f k n : Int} (h : At W b c t f k) (hne : b ≠ b') (hb : Below (W.setCell ⟨b', 3, none⟩ (.int .u32 n)).heap.size (W.setCell ⟨b', 3, none⟩ (.int .u32 n)) W') : At W' b c t f k := (h.off hne).below hb
theorem stp3 {w a b : World} {q : Nat} {n : Int} (h : Hid (Below w.heap.size w a)) (hq : w.heap.size ≤ q) (h' : Below (a.setCell ⟨q, 3, none⟩ (.int .u32 n)).heap.size (a.setCell ⟨q, 3, none⟩ (.int .u32 n)) b) : Hid (Below w.heap.size w b) := (h.out.setCell hq _).trans (h'.mono (h.out.setCell hq _).size)

set_option maxHeartbeats 1600000 in
set_option maxRecDepth 100000 in
theorem p100 (s N R0 : ByteArray) (c : Int) (hc : 0 ≤ c ∧ c < 65536) (hl : N.size ≤ s.size) (hs : s.size ≤ 1000000) (hre : s.extract N.size s.size = R0)
    (cC : ∀ w, Calls Tryd.prog 27 #[.string s, .string ⟨#[32]⟩] w fun e w' => ∃ R, e = .returned (.tuple #[.string N, .string R, .bool (M.has 32 s.data.toList)]) ∧ Below w.heap.size w w')
    (cF : ∀ w, Calls Tryd.prog 28 #[.string N] w fun e w' => e = .returned (.tuple #[.int .u16 c, .bool true]) ∧ Below w.heap.size w w')
    (hk : M.hasK c = true)
    (cT : ∀ w, Nm w → Calls Tryd.prog 29 #[.string R0, .int .i64 32] w fun e w' => ∃ n R, e = .returned (.tuple #[.int .u32 n, .string R, .bool false]) ∧ Below w.heap.size w w') (w : World) (hN : Nm w) :
    Calls Tryd.prog 12 #[.string s] w fun e w' => e = .returned (.tuple #[.agg #[.int .u16 0, .int .u8 0, .int .u8 0, .int .u32 0], .int .i64 3]) ∧ Below w.heap.size w w' := by
  have HN := Lib.hid hN
  have x1 : (0 : Int) ≤ N.size := by omega
  have x2 : (N.size : Int) ≤ s.size := by omega
  clear hN hl hs
  go_enter Tryd.func12, Tryd.ntmps12
  go_wp2_with (first
    | (go_at_call 27; refine (cC _).mono ?_; rintro e w1 ⟨R, rfl, hb⟩; have hA := (At.new w 0 0 0 0).below hb; have hB := Lib.hid (((Below.refl w.heap.size w).alloc (Nat.le_refl _) _).trans (hb.mono (by simp))); clear hb)
    | (go_at_call 28; refine (cF _).mono ?_; rintro e w2 ⟨rfl, hb⟩; have hA := hA.below hb; have hB := stp hB hb; clear hb)
    | (go_at_call 22; refine (hask_any c 0 0 0 ⟨hc, by simp, by simp, by simp⟩ _).mono ?_; rintro e w3 ⟨rfl, hb⟩; rw [hk]; have hne : w.heap.size ≠ w2.heap.size := Nat.ne_of_lt hA.lt; have hle : w.heap.size ≤ w2.heap.size := hB.out.size; have hA := (hA.alloc _).below hb; have hD := (At.new w2 c 0 0 0).below hb; have hB := Lib.hid ((hB.out.alloc hle _).trans (hb.mono (by simp; omega))); clear hb; obtain ⟨a0, a1, a2, a3, a4⟩ := hA.cells; obtain ⟨d0, d1, d2, d3, d4⟩ := hD.cells)
    | (go_at_call 29; refine (cT _ (HN.out.below hB.out)).mono ?_; rintro e w4 ⟨n, R, rfl, hb⟩; have hA := hA.below hb; have hD := hD.below hb; have hB := stp hB hb; clear hb; obtain ⟨a0, a1, a2, a3, a4⟩ := hA.cells; obtain ⟨d0, d1, d2, d3, d4⟩ := hD.cells))
  refine bodyPost_ret (results_cell (c := 0) (t := 0) (f := 0) (k := 0) rfl _ _ rfl ((hA.off hne).put 0 0 0 0)) rfl ?_
  exact ⟨rfl, put_below (hB.out.setCell hle _) (Nat.le_refl _)⟩

set_option maxHeartbeats 1600000 in
set_option maxRecDepth 100000 in
theorem p001 (s N R0 : ByteArray) (c : Int) (hc : 0 ≤ c ∧ c < 65536) (hl : N.size ≤ s.size) (hs : s.size ≤ 1000000) (hre : s.extract N.size s.size = R0)
    (cC : ∀ w, Calls Tryd.prog 27 #[.string s, .string ⟨#[32]⟩] w fun e w' => ∃ R, e = .returned (.tuple #[.string N, .string R, .bool (M.has 32 s.data.toList)]) ∧ Below w.heap.size w w')
    (cF : ∀ w, Calls Tryd.prog 28 #[.string N] w fun e w' => e = .returned (.tuple #[.int .u16 c, .bool true]) ∧ Below w.heap.size w w')
    (hk : M.hasK c = false)
    (hj : M.jif c = false)
    (he : (R0.toList == []) = true) (w : World) (hN : Nm w) :
    Calls Tryd.prog 12 #[.string s] w fun e w' => e = .returned (.tuple #[.agg #[.int .u16 c, .int .u8 0, .int .u8 0, .int .u32 0], .int .i64 0]) ∧ Below w.heap.size w w' := by
  have HN := Lib.hid hN
  have x1 : (0 : Int) ≤ N.size := by omega
  have x2 : (N.size : Int) ≤ s.size := by omega
  clear hN hl hs
  go_enter Tryd.func12, Tryd.ntmps12
  go_wp2_with (first
    | (go_at_call 27; refine (cC _).mono ?_; rintro e w1 ⟨R, rfl, hb⟩; have hA := (At.new w 0 0 0 0).below hb; have hB := Lib.hid (((Below.refl w.heap.size w).alloc (Nat.le_refl _) _).trans (hb.mono (by simp))); clear hb)
    | (go_at_call 28; refine (cF _).mono ?_; rintro e w2 ⟨rfl, hb⟩; have hA := hA.below hb; have hB := stp hB hb; clear hb)
    | (go_at_call 22; refine (hask_any c 0 0 0 ⟨hc, by simp, by simp, by simp⟩ _).mono ?_; rintro e w3 ⟨rfl, hb⟩; rw [hk]; have hne : w.heap.size ≠ w2.heap.size := Nat.ne_of_lt hA.lt; have hle : w.heap.size ≤ w2.heap.size := hB.out.size; have hA := (hA.alloc _).below hb; have hD := (At.new w2 c 0 0 0).below hb; have hB := Lib.hid ((hB.out.alloc hle _).trans (hb.mono (by simp; omega))); clear hb; obtain ⟨a0, a1, a2, a3, a4⟩ := hA.cells; obtain ⟨d0, d1, d2, d3, d4⟩ := hD.cells)
    | (go_at_call 23; refine (hasj_any c 0 0 0 _).mono ?_; rintro e w5 ⟨rfl, hb⟩; rw [hj]; have hA := hA.below hb; have hD := hD.below hb; have hB := stp hB hb; clear hb; obtain ⟨a0, a1, a2, a3, a4⟩ := hA.cells; obtain ⟨d0, d1, d2, d3, d4⟩ := hD.cells))
  refine bodyPost_ret (results_cell (c := c) (t := 0) (f := 0) (k := 0) rfl _ _ rfl (hA.put c 0 0 0)) rfl ?_
  exact ⟨rfl, put_below hB.out (Nat.le_refl _)⟩

set_option maxHeartbeats 1600000 in
set_option maxRecDepth 100000 in
theorem p000 (s N R0 : ByteArray) (c : Int) (hc : 0 ≤ c ∧ c < 65536) (hl : N.size ≤ s.size) (hs : s.size ≤ 1000000) (hre : s.extract N.size s.size = R0)
    (cC : ∀ w, Calls Tryd.prog 27 #[.string s, .string ⟨#[32]⟩] w fun e w' => ∃ R, e = .returned (.tuple #[.string N, .string R, .bool (M.has 32 s.data.toList)]) ∧ Below w.heap.size w w')
    (cF : ∀ w, Calls Tryd.prog 28 #[.string N] w fun e w' => e = .returned (.tuple #[.int .u16 c, .bool true]) ∧ Below w.heap.size w w')
    (hk : M.hasK c = false)
    (hj : M.jif c = false)
    (he : (R0.toList == []) = false) (w : World) (hN : Nm w) :
    Calls Tryd.prog 12 #[.string s] w fun e w' => e = .returned (.tuple #[.agg #[.int .u16 0, .int .u8 0, .int .u8 0, .int .u32 0], .int .i64 3]) ∧ Below w.heap.size w w' := by
  have HN := Lib.hid hN
  have x1 : (0 : Int) ≤ N.size := by omega
  have x2 : (N.size : Int) ≤ s.size := by omega
  clear hN hl hs
  go_enter Tryd.func12, Tryd.ntmps12
  go_wp2_with (first
    | (go_at_call 27; refine (cC _).mono ?_; rintro e w1 ⟨R, rfl, hb⟩; have hA := (At.new w 0 0 0 0).below hb; have hB := Lib.hid (((Below.refl w.heap.size w).alloc (Nat.le_refl _) _).trans (hb.mono (by simp))); clear hb)
    | (go_at_call 28; refine (cF _).mono ?_; rintro e w2 ⟨rfl, hb⟩; have hA := hA.below hb; have hB := stp hB hb; clear hb)
    | (go_at_call 22; refine (hask_any c 0 0 0 ⟨hc, by simp, by simp, by simp⟩ _).mono ?_; rintro e w3 ⟨rfl, hb⟩; rw [hk]; have hne : w.heap.size ≠ w2.heap.size := Nat.ne_of_lt hA.lt; have hle : w.heap.size ≤ w2.heap.size := hB.out.size; have hA := (hA.alloc _).below hb; have hD := (At.new w2 c 0 0 0).below hb; have hB := Lib.hid ((hB.out.alloc hle _).trans (hb.mono (by simp; omega))); clear hb; obtain ⟨a0, a1, a2, a3, a4⟩ := hA.cells; obtain ⟨d0, d1, d2, d3, d4⟩ := hD.cells)
    | (go_at_call 23; refine (hasj_any c 0 0 0 _).mono ?_; rintro e w5 ⟨rfl, hb⟩; rw [hj]; have hA := hA.below hb; have hD := hD.below hb; have hB := stp hB hb; clear hb; obtain ⟨a0, a1, a2, a3, a4⟩ := hA.cells; obtain ⟨d0, d1, d2, d3, d4⟩ := hD.cells))
  refine bodyPost_ret (results_cell (c := 0) (t := 0) (f := 0) (k := 0) rfl _ _ rfl (hA.put 0 0 0 0)) rfl ?_
  exact ⟨rfl, put_below hB.out (Nat.le_refl _)⟩

set_option maxHeartbeats 1600000 in
set_option maxRecDepth 100000 in
theorem p010 (s N R0 : ByteArray) (c : Int) (hc : 0 ≤ c ∧ c < 65536) (hl : N.size ≤ s.size) (hs : s.size ≤ 1000000) (hre : s.extract N.size s.size = R0)
    (cC : ∀ w, Calls Tryd.prog 27 #[.string s, .string ⟨#[32]⟩] w fun e w' => ∃ R, e = .returned (.tuple #[.string N, .string R, .bool (M.has 32 s.data.toList)]) ∧ Below w.heap.size w w')
    (cF : ∀ w, Calls Tryd.prog 28 #[.string N] w fun e w' => e = .returned (.tuple #[.int .u16 c, .bool true]) ∧ Below w.heap.size w w')
    (hk : M.hasK c = false)
    (hj : M.jif c = true)
    (cJ : ∀ w, Nm w → Calls Tryd.prog 30 #[.string R0] w fun e w' => ∃ t f R, e = .returned (.tuple #[.int .u8 t, .int .u8 f, .string R, .bool false]) ∧ Below w.heap.size w w') (w : World) (hN : Nm w) :
    Calls Tryd.prog 12 #[.string s] w fun e w' => e = .returned (.tuple #[.agg #[.int .u16 0, .int .u8 0, .int .u8 0, .int .u32 0], .int .i64 3]) ∧ Below w.heap.size w w' := by
  have HN := Lib.hid hN
  have x1 : (0 : Int) ≤ N.size := by omega
  have x2 : (N.size : Int) ≤ s.size := by omega
  clear hN hl hs
  go_enter Tryd.func12, Tryd.ntmps12
  go_wp2_with (first
    | (go_at_call 27; refine (cC _).mono ?_; rintro e w1 ⟨R, rfl, hb⟩; have hA := (At.new w 0 0 0 0).below hb; have hB := Lib.hid (((Below.refl w.heap.size w).alloc (Nat.le_refl _) _).trans (hb.mono (by simp))); clear hb)
    | (go_at_call 28; refine (cF _).mono ?_; rintro e w2 ⟨rfl, hb⟩; have hA := hA.below hb; have hB := stp hB hb; clear hb)
    | (go_at_call 22; refine (hask_any c 0 0 0 ⟨hc, by simp, by simp, by simp⟩ _).mono ?_; rintro e w3 ⟨rfl, hb⟩; rw [hk]; have hne : w.heap.size ≠ w2.heap.size := Nat.ne_of_lt hA.lt; have hle : w.heap.size ≤ w2.heap.size := hB.out.size; have hA := (hA.alloc _).below hb; have hD := (At.new w2 c 0 0 0).below hb; have hB := Lib.hid ((hB.out.alloc hle _).trans (hb.mono (by simp; omega))); clear hb; obtain ⟨a0, a1, a2, a3, a4⟩ := hA.cells; obtain ⟨d0, d1, d2, d3, d4⟩ := hD.cells)
    | (go_at_call 23; refine (hasj_any c 0 0 0 _).mono ?_; rintro e w5 ⟨rfl, hb⟩; rw [hj]; have hA := hA.below hb; have hD := hD.below hb; have hB := stp hB hb; clear hb; obtain ⟨a0, a1, a2, a3, a4⟩ := hA.cells; obtain ⟨d0, d1, d2, d3, d4⟩ := hD.cells)
    | (go_at_call 30; refine (cJ _ (HN.out.below hB.out)).mono ?_; rintro e w6 ⟨t, f, R, rfl, hb⟩; have hA := hA.below hb; have hD := hD.below hb; have hB := stp hB hb; clear hb; obtain ⟨a0, a1, a2, a3, a4⟩ := hA.cells; obtain ⟨d0, d1, d2, d3, d4⟩ := hD.cells))
  refine bodyPost_ret (results_cell (c := 0) (t := 0) (f := 0) (k := 0) rfl _ _ rfl (((hA.off hne).off hne).put 0 0 0 0)) rfl ?_
  exact ⟨rfl, put_below ((hB.out.setCell hle _).setCell hle _) (Nat.le_refl _)⟩

set_option maxHeartbeats 1600000 in
set_option maxRecDepth 100000 in
theorem p021 (s N R0 : ByteArray) (c : Int) (hc : 0 ≤ c ∧ c < 65536) (hl : N.size ≤ s.size) (hs : s.size ≤ 1000000) (hre : s.extract N.size s.size = R0)
    (cC : ∀ w, Calls Tryd.prog 27 #[.string s, .string ⟨#[32]⟩] w fun e w' => ∃ R, e = .returned (.tuple #[.string N, .string R, .bool (M.has 32 s.data.toList)]) ∧ Below w.heap.size w w')
    (cF : ∀ w, Calls Tryd.prog 28 #[.string N] w fun e w' => e = .returned (.tuple #[.int .u16 c, .bool true]) ∧ Below w.heap.size w w')
    (hk : M.hasK c = false)
    (hj : M.jif c = true)
    (t f : Int) (R2 : ByteArray) (cJ : ∀ w, Nm w → Calls Tryd.prog 30 #[.string R0] w fun e w' => e = .returned (.tuple #[.int .u8 t, .int .u8 f, .string R2, .bool true]) ∧ Below w.heap.size w w')
    (he : (R2.toList == []) = true) (w : World) (hN : Nm w) :
    Calls Tryd.prog 12 #[.string s] w fun e w' => e = .returned (.tuple #[.agg #[.int .u16 c, .int .u8 t, .int .u8 f, .int .u32 0], .int .i64 0]) ∧ Below w.heap.size w w' := by
  have HN := Lib.hid hN
  have x1 : (0 : Int) ≤ N.size := by omega
  have x2 : (N.size : Int) ≤ s.size := by omega
  clear hN hl hs
  go_enter Tryd.func12, Tryd.ntmps12
  go_wp2_with (first
    | (go_at_call 27; refine (cC _).mono ?_; rintro e w1 ⟨R, rfl, hb⟩; have hA := (At.new w 0 0 0 0).below hb; have hB := Lib.hid (((Below.refl w.heap.size w).alloc (Nat.le_refl _) _).trans (hb.mono (by simp))); clear hb)
    | (go_at_call 28; refine (cF _).mono ?_; rintro e w2 ⟨rfl, hb⟩; have hA := hA.below hb; have hB := stp hB hb; clear hb)
    | (go_at_call 22; refine (hask_any c 0 0 0 ⟨hc, by simp, by simp, by simp⟩ _).mono ?_; rintro e w3 ⟨rfl, hb⟩; rw [hk]; have hne : w.heap.size ≠ w2.heap.size := Nat.ne_of_lt hA.lt; have hle : w.heap.size ≤ w2.heap.size := hB.out.size; have hA := (hA.alloc _).below hb; have hD := (At.new w2 c 0 0 0).below hb; have hB := Lib.hid ((hB.out.alloc hle _).trans (hb.mono (by simp; omega))); clear hb; obtain ⟨a0, a1, a2, a3, a4⟩ := hA.cells; obtain ⟨d0, d1, d2, d3, d4⟩ := hD.cells)
    | (go_at_call 23; refine (hasj_any c 0 0 0 _).mono ?_; rintro e w5 ⟨rfl, hb⟩; rw [hj]; have hA := hA.below hb; have hD := hD.below hb; have hB := stp hB hb; clear hb; obtain ⟨a0, a1, a2, a3, a4⟩ := hA.cells; obtain ⟨d0, d1, d2, d3, d4⟩ := hD.cells)
    | (go_at_call 30; refine (cJ _ (HN.out.below hB.out)).mono ?_; rintro e w6 ⟨rfl, hb⟩; have hA := hA.below hb; have hD := hD.below hb; have hB := stp hB hb; clear hb; obtain ⟨a0, a1, a2, a3, a4⟩ := hA.cells; obtain ⟨d0, d1, d2, d3, d4⟩ := hD.cells))
  refine bodyPost_ret (results_cell (c := c) (t := t) (f := f) (k := 0) rfl _ _ rfl (((hA.off hne).off hne).put c t f 0)) rfl ?_
  exact ⟨rfl, put_below ((hB.out.setCell hle _).setCell hle _) (Nat.le_refl _)⟩

set_option maxHeartbeats 1600000 in
set_option maxRecDepth 100000 in
theorem p020 (s N R0 : ByteArray) (c : Int) (hc : 0 ≤ c ∧ c < 65536) (hl : N.size ≤ s.size) (hs : s.size ≤ 1000000) (hre : s.extract N.size s.size = R0)
    (cC : ∀ w, Calls Tryd.prog 27 #[.string s, .string ⟨#[32]⟩] w fun e w' => ∃ R, e = .returned (.tuple #[.string N, .string R, .bool (M.has 32 s.data.toList)]) ∧ Below w.heap.size w w')
    (cF : ∀ w, Calls Tryd.prog 28 #[.string N] w fun e w' => e = .returned (.tuple #[.int .u16 c, .bool true]) ∧ Below w.heap.size w w')
    (hk : M.hasK c = false)
    (hj : M.jif c = true)
    (t f : Int) (R2 : ByteArray) (cJ : ∀ w, Nm w → Calls Tryd.prog 30 #[.string R0] w fun e w' => e = .returned (.tuple #[.int .u8 t, .int .u8 f, .string R2, .bool true]) ∧ Below w.heap.size w w')
    (he : (R2.toList == []) = false) (w : World) (hN : Nm w) :
    Calls Tryd.prog 12 #[.string s] w fun e w' => e = .returned (.tuple #[.agg #[.int .u16 0, .int .u8 0, .int .u8 0, .int .u32 0], .int .i64 3]) ∧ Below w.heap.size w w' := by
  have HN := Lib.hid hN
  have x1 : (0 : Int) ≤ N.size := by omega
  have x2 : (N.size : Int) ≤ s.size := by omega
  clear hN hl hs
  go_enter Tryd.func12, Tryd.ntmps12
  go_wp2_with (first
    | (go_at_call 27; refine (cC _).mono ?_; rintro e w1 ⟨R, rfl, hb⟩; have hA := (At.new w 0 0 0 0).below hb; have hB := Lib.hid (((Below.refl w.heap.size w).alloc (Nat.le_refl _) _).trans (hb.mono (by simp))); clear hb)
    | (go_at_call 28; refine (cF _).mono ?_; rintro e w2 ⟨rfl, hb⟩; have hA := hA.below hb; have hB := stp hB hb; clear hb)
    | (go_at_call 22; refine (hask_any c 0 0 0 ⟨hc, by simp, by simp, by simp⟩ _).mono ?_; rintro e w3 ⟨rfl, hb⟩; rw [hk]; have hne : w.heap.size ≠ w2.heap.size := Nat.ne_of_lt hA.lt; have hle : w.heap.size ≤ w2.heap.size := hB.out.size; have hA := (hA.alloc _).below hb; have hD := (At.new w2 c 0 0 0).below hb; have hB := Lib.hid ((hB.out.alloc hle _).trans (hb.mono (by simp; omega))); clear hb; obtain ⟨a0, a1, a2, a3, a4⟩ := hA.cells; obtain ⟨d0, d1, d2, d3, d4⟩ := hD.cells)
    | (go_at_call 23; refine (hasj_any c 0 0 0 _).mono ?_; rintro e w5 ⟨rfl, hb⟩; rw [hj]; have hA := hA.below hb; have hD := hD.below hb; have hB := stp hB hb; clear hb; obtain ⟨a0, a1, a2, a3, a4⟩ := hA.cells; obtain ⟨d0, d1, d2, d3, d4⟩ := hD.cells)
    | (go_at_call 30; refine (cJ _ (HN.out.below hB.out)).mono ?_; rintro e w6 ⟨rfl, hb⟩; have hA := hA.below hb; have hD := hD.below hb; have hB := stp hB hb; clear hb; obtain ⟨a0, a1, a2, a3, a4⟩ := hA.cells; obtain ⟨d0, d1, d2, d3, d4⟩ := hD.cells))
  refine bodyPost_ret (results_cell (c := 0) (t := 0) (f := 0) (k := 0) rfl _ _ rfl (((hA.off hne).off hne).put 0 0 0 0)) rfl ?_
  exact ⟨rfl, put_below ((hB.out.setCell hle _).setCell hle _) (Nat.le_refl _)⟩

set_option maxHeartbeats 1600000 in
set_option maxRecDepth 100000 in
theorem p201 (s N R0 : ByteArray) (c : Int) (hc : 0 ≤ c ∧ c < 65536) (hl : N.size ≤ s.size) (hs : s.size ≤ 1000000) (hre : s.extract N.size s.size = R0)
    (cC : ∀ w, Calls Tryd.prog 27 #[.string s, .string ⟨#[32]⟩] w fun e w' => ∃ R, e = .returned (.tuple #[.string N, .string R, .bool (M.has 32 s.data.toList)]) ∧ Below w.heap.size w w')
    (cF : ∀ w, Calls Tryd.prog 28 #[.string N] w fun e w' => e = .returned (.tuple #[.int .u16 c, .bool true]) ∧ Below w.heap.size w w')
    (hk : M.hasK c = true)
    (k : Int) (R1 : ByteArray) (hkb : 0 ≤ k ∧ k < 4294967296) (cT : ∀ w, Nm w → Calls Tryd.prog 29 #[.string R0, .int .i64 32] w fun e w' => e = .returned (.tuple #[.int .u32 k, .string R1, .bool true]) ∧ Below w.heap.size w w')
    (hj : M.jif c = false)
    (he : (R1.toList == []) = true) (w : World) (hN : Nm w) :
    Calls Tryd.prog 12 #[.string s] w fun e w' => e = .returned (.tuple #[.agg #[.int .u16 c, .int .u8 0, .int .u8 0, .int .u32 k], .int .i64 0]) ∧ Below w.heap.size w w' := by
  have HN := Lib.hid hN
  have x1 : (0 : Int) ≤ N.size := by omega
  have x2 : (N.size : Int) ≤ s.size := by omega
  clear hN hl hs
  go_enter Tryd.func12, Tryd.ntmps12
  go_wp2_with (first
    | (go_at_call 27; refine (cC _).mono ?_; rintro e w1 ⟨R, rfl, hb⟩; have hA := (At.new w 0 0 0 0).below hb; have hB := Lib.hid (((Below.refl w.heap.size w).alloc (Nat.le_refl _) _).trans (hb.mono (by simp))); clear hb)
    | (go_at_call 28; refine (cF _).mono ?_; rintro e w2 ⟨rfl, hb⟩; have hA := hA.below hb; have hB := stp hB hb; clear hb)
    | (go_at_call 22; refine (hask_any c 0 0 0 ⟨hc, by simp, by simp, by simp⟩ _).mono ?_; rintro e w3 ⟨rfl, hb⟩; rw [hk]; have hne : w.heap.size ≠ w2.heap.size := Nat.ne_of_lt hA.lt; have hle : w.heap.size ≤ w2.heap.size := hB.out.size; have hA := (hA.alloc _).below hb; have hD := (At.new w2 c 0 0 0).below hb; have hB := Lib.hid ((hB.out.alloc hle _).trans (hb.mono (by simp; omega))); clear hb; obtain ⟨a0, a1, a2, a3, a4⟩ := hA.cells; obtain ⟨d0, d1, d2, d3, d4⟩ := hD.cells)
    | (go_at_call 29; refine (cT _ (HN.out.below hB.out)).mono ?_; rintro e w4 ⟨rfl, hb⟩; have hA := hA.below hb; have hD := hD.below hb; have hB := stp hB hb; clear hb; obtain ⟨a0, a1, a2, a3, a4⟩ := hA.cells; obtain ⟨d0, d1, d2, d3, d4⟩ := hD.cells)
    | (go_at_call 23; refine (hasj_any c 0 0 k _).mono ?_; rintro e w5 ⟨rfl, hb⟩; rw [hj]; have hA := hAoff hA hne hb; have hD := (hD.set3 k).below hb; have hB := stp3 hB hle hb; clear hb; obtain ⟨a0, a1, a2, a3, a4⟩ := hA.cells; obtain ⟨d0, d1, d2, d3, d4⟩ := hD.cells))
  refine bodyPost_ret (results_cell (c := c) (t := 0) (f := 0) (k := k) rfl _ _ rfl (hA.put c 0 0 k)) rfl ?_
  exact ⟨rfl, put_below hB.out (Nat.le_refl _)⟩

set_option maxHeartbeats 1600000 in
set_option maxRecDepth 100000 in
theorem p200 (s N R0 : ByteArray) (c : Int) (hc : 0 ≤ c ∧ c < 65536) (hl : N.size ≤ s.size) (hs : s.size ≤ 1000000) (hre : s.extract N.size s.size = R0)
    (cC : ∀ w, Calls Tryd.prog 27 #[.string s, .string ⟨#[32]⟩] w fun e w' => ∃ R, e = .returned (.tuple #[.string N, .string R, .bool (M.has 32 s.data.toList)]) ∧ Below w.heap.size w w')
    (cF : ∀ w, Calls Tryd.prog 28 #[.string N] w fun e w' => e = .returned (.tuple #[.int .u16 c, .bool true]) ∧ Below w.heap.size w w')
    (hk : M.hasK c = true)
    (k : Int) (R1 : ByteArray) (hkb : 0 ≤ k ∧ k < 4294967296) (cT : ∀ w, Nm w → Calls Tryd.prog 29 #[.string R0, .int .i64 32] w fun e w' => e = .returned (.tuple #[.int .u32 k, .string R1, .bool true]) ∧ Below w.heap.size w w')
    (hj : M.jif c = false)
    (he : (R1.toList == []) = false) (w : World) (hN : Nm w) :
    Calls Tryd.prog 12 #[.string s] w fun e w' => e = .returned (.tuple #[.agg #[.int .u16 0, .int .u8 0, .int .u8 0, .int .u32 0], .int .i64 3]) ∧ Below w.heap.size w w' := by
  have HN := Lib.hid hN
  have x1 : (0 : Int) ≤ N.size := by omega
  have x2 : (N.size : Int) ≤ s.size := by omega
  clear hN hl hs
  go_enter Tryd.func12, Tryd.ntmps12
  go_wp2_with (first
    | (go_at_call 27; refine (cC _).mono ?_; rintro e w1 ⟨R, rfl, hb⟩; have hA := (At.new w 0 0 0 0).below hb; have hB := Lib.hid (((Below.refl w.heap.size w).alloc (Nat.le_refl _) _).trans (hb.mono (by simp))); clear hb)
    | (go_at_call 28; refine (cF _).mono ?_; rintro e w2 ⟨rfl, hb⟩; have hA := hA.below hb; have hB := stp hB hb; clear hb)
    | (go_at_call 22; refine (hask_any c 0 0 0 ⟨hc, by simp, by simp, by simp⟩ _).mono ?_; rintro e w3 ⟨rfl, hb⟩; rw [hk]; have hne : w.heap.size ≠ w2.heap.size := Nat.ne_of_lt hA.lt; have hle : w.heap.size ≤ w2.heap.size := hB.out.size; have hA := (hA.alloc _).below hb; have hD := (At.new w2 c 0 0 0).below hb; have hB := Lib.hid ((hB.out.alloc hle _).trans (hb.mono (by simp; omega))); clear hb; obtain ⟨a0, a1, a2, a3, a4⟩ := hA.cells; obtain ⟨d0, d1, d2, d3, d4⟩ := hD.cells)
    | (go_at_call 29; refine (cT _ (HN.out.below hB.out)).mono ?_; rintro e w4 ⟨rfl, hb⟩; have hA := hA.below hb; have hD := hD.below hb; have hB := stp hB hb; clear hb; obtain ⟨a0, a1, a2, a3, a4⟩ := hA.cells; obtain ⟨d0, d1, d2, d3, d4⟩ := hD.cells)
    | (go_at_call 23; refine (hasj_any c 0 0 k _).mono ?_; rintro e w5 ⟨rfl, hb⟩; rw [hj]; have hA := hAoff hA hne hb; have hD := (hD.set3 k).below hb; have hB := stp3 hB hle hb; clear hb; obtain ⟨a0, a1, a2, a3, a4⟩ := hA.cells; obtain ⟨d0, d1, d2, d3, d4⟩ := hD.cells))
  refine bodyPost_ret (results_cell (c := 0) (t := 0) (f := 0) (k := 0) rfl _ _ rfl (hA.put 0 0 0 0)) rfl ?_
  exact ⟨rfl, put_below hB.out (Nat.le_refl _)⟩

set_option maxHeartbeats 1600000 in
set_option maxRecDepth 100000 in
theorem p210 (s N R0 : ByteArray) (c : Int) (hc : 0 ≤ c ∧ c < 65536) (hl : N.size ≤ s.size) (hs : s.size ≤ 1000000) (hre : s.extract N.size s.size = R0)
    (cC : ∀ w, Calls Tryd.prog 27 #[.string s, .string ⟨#[32]⟩] w fun e w' => ∃ R, e = .returned (.tuple #[.string N, .string R, .bool (M.has 32 s.data.toList)]) ∧ Below w.heap.size w w')
    (cF : ∀ w, Calls Tryd.prog 28 #[.string N] w fun e w' => e = .returned (.tuple #[.int .u16 c, .bool true]) ∧ Below w.heap.size w w')
    (hk : M.hasK c = true)
    (k : Int) (R1 : ByteArray) (hkb : 0 ≤ k ∧ k < 4294967296) (cT : ∀ w, Nm w → Calls Tryd.prog 29 #[.string R0, .int .i64 32] w fun e w' => e = .returned (.tuple #[.int .u32 k, .string R1, .bool true]) ∧ Below w.heap.size w w')
    (hj : M.jif c = true)
    (cJ : ∀ w, Nm w → Calls Tryd.prog 30 #[.string R1] w fun e w' => ∃ t f R, e = .returned (.tuple #[.int .u8 t, .int .u8 f, .string R, .bool false]) ∧ Below w.heap.size w w') (w : World) (hN : Nm w) :
    Calls Tryd.prog 12 #[.string s] w fun e w' => e = .returned (.tuple #[.agg #[.int .u16 0, .int .u8 0, .int .u8 0, .int .u32 0], .int .i64 3]) ∧ Below w.heap.size w w' := by
  have HN := Lib.hid hN
  have x1 : (0 : Int) ≤ N.size := by omega
  have x2 : (N.size : Int) ≤ s.size := by omega
  clear hN hl hs
  go_enter Tryd.func12, Tryd.ntmps12
  go_wp2_with (first
    | (go_at_call 27; refine (cC _).mono ?_; rintro e w1 ⟨R, rfl, hb⟩; have hA := (At.new w 0 0 0 0).below hb; have hB := Lib.hid (((Below.refl w.heap.size w).alloc (Nat.le_refl _) _).trans (hb.mono (by simp))); clear hb)
    | (go_at_call 28; refine (cF _).mono ?_; rintro e w2 ⟨rfl, hb⟩; have hA := hA.below hb; have hB := stp hB hb; clear hb)
    | (go_at_call 22; refine (hask_any c 0 0 0 ⟨hc, by simp, by simp, by simp⟩ _).mono ?_; rintro e w3 ⟨rfl, hb⟩; rw [hk]; have hne : w.heap.size ≠ w2.heap.size := Nat.ne_of_lt hA.lt; have hle : w.heap.size ≤ w2.heap.size := hB.out.size; have hA := (hA.alloc _).below hb; have hD := (At.new w2 c 0 0 0).below hb; have hB := Lib.hid ((hB.out.alloc hle _).trans (hb.mono (by simp; omega))); clear hb; obtain ⟨a0, a1, a2, a3, a4⟩ := hA.cells; obtain ⟨d0, d1, d2, d3, d4⟩ := hD.cells)
    | (go_at_call 29; refine (cT _ (HN.out.below hB.out)).mono ?_; rintro e w4 ⟨rfl, hb⟩; have hA := hA.below hb; have hD := hD.below hb; have hB := stp hB hb; clear hb; obtain ⟨a0, a1, a2, a3, a4⟩ := hA.cells; obtain ⟨d0, d1, d2, d3, d4⟩ := hD.cells)
    | (go_at_call 23; refine (hasj_any c 0 0 k _).mono ?_; rintro e w5 ⟨rfl, hb⟩; rw [hj]; have hA := hAoff hA hne hb; have hD := (hD.set3 k).below hb; have hB := stp3 hB hle hb; clear hb; obtain ⟨a0, a1, a2, a3, a4⟩ := hA.cells; obtain ⟨d0, d1, d2, d3, d4⟩ := hD.cells)
    | (go_at_call 30; refine (cJ _ (HN.out.below hB.out)).mono ?_; rintro e w6 ⟨t, f, R, rfl, hb⟩; have hA := hA.below hb; have hD := hD.below hb; have hB := stp hB hb; clear hb; obtain ⟨a0, a1, a2, a3, a4⟩ := hA.cells; obtain ⟨d0, d1, d2, d3, d4⟩ := hD.cells))
  refine bodyPost_ret (results_cell (c := 0) (t := 0) (f := 0) (k := 0) rfl _ _ rfl (((hA.off hne).off hne).put 0 0 0 0)) rfl ?_
  exact ⟨rfl, put_below ((hB.out.setCell hle _).setCell hle _) (Nat.le_refl _)⟩

set_option maxHeartbeats 1600000 in
set_option maxRecDepth 100000 in
theorem p221 (s N R0 : ByteArray) (c : Int) (hc : 0 ≤ c ∧ c < 65536) (hl : N.size ≤ s.size) (hs : s.size ≤ 1000000) (hre : s.extract N.size s.size = R0)
    (cC : ∀ w, Calls Tryd.prog 27 #[.string s, .string ⟨#[32]⟩] w fun e w' => ∃ R, e = .returned (.tuple #[.string N, .string R, .bool (M.has 32 s.data.toList)]) ∧ Below w.heap.size w w')
    (cF : ∀ w, Calls Tryd.prog 28 #[.string N] w fun e w' => e = .returned (.tuple #[.int .u16 c, .bool true]) ∧ Below w.heap.size w w')
    (hk : M.hasK c = true)
    (k : Int) (R1 : ByteArray) (hkb : 0 ≤ k ∧ k < 4294967296) (cT : ∀ w, Nm w → Calls Tryd.prog 29 #[.string R0, .int .i64 32] w fun e w' => e = .returned (.tuple #[.int .u32 k, .string R1, .bool true]) ∧ Below w.heap.size w w')
    (hj : M.jif c = true)
    (t f : Int) (R2 : ByteArray) (cJ : ∀ w, Nm w → Calls Tryd.prog 30 #[.string R1] w fun e w' => e = .returned (.tuple #[.int .u8 t, .int .u8 f, .string R2, .bool true]) ∧ Below w.heap.size w w')
    (he : (R2.toList == []) = true) (w : World) (hN : Nm w) :
    Calls Tryd.prog 12 #[.string s] w fun e w' => e = .returned (.tuple #[.agg #[.int .u16 c, .int .u8 t, .int .u8 f, .int .u32 k], .int .i64 0]) ∧ Below w.heap.size w w' := by
  have HN := Lib.hid hN
  have x1 : (0 : Int) ≤ N.size := by omega
  have x2 : (N.size : Int) ≤ s.size := by omega
  clear hN hl hs
  go_enter Tryd.func12, Tryd.ntmps12
  go_wp2_with (first
    | (go_at_call 27; refine (cC _).mono ?_; rintro e w1 ⟨R, rfl, hb⟩; have hA := (At.new w 0 0 0 0).below hb; have hB := Lib.hid (((Below.refl w.heap.size w).alloc (Nat.le_refl _) _).trans (hb.mono (by simp))); clear hb)
    | (go_at_call 28; refine (cF _).mono ?_; rintro e w2 ⟨rfl, hb⟩; have hA := hA.below hb; have hB := stp hB hb; clear hb)
    | (go_at_call 22; refine (hask_any c 0 0 0 ⟨hc, by simp, by simp, by simp⟩ _).mono ?_; rintro e w3 ⟨rfl, hb⟩; rw [hk]; have hne : w.heap.size ≠ w2.heap.size := Nat.ne_of_lt hA.lt; have hle : w.heap.size ≤ w2.heap.size := hB.out.size; have hA := (hA.alloc _).below hb; have hD := (At.new w2 c 0 0 0).below hb; have hB := Lib.hid ((hB.out.alloc hle _).trans (hb.mono (by simp; omega))); clear hb; obtain ⟨a0, a1, a2, a3, a4⟩ := hA.cells; obtain ⟨d0, d1, d2, d3, d4⟩ := hD.cells)
    | (go_at_call 29; refine (cT _ (HN.out.below hB.out)).mono ?_; rintro e w4 ⟨rfl, hb⟩; have hA := hA.below hb; have hD := hD.below hb; have hB := stp hB hb; clear hb; obtain ⟨a0, a1, a2, a3, a4⟩ := hA.cells; obtain ⟨d0, d1, d2, d3, d4⟩ := hD.cells)
    | (go_at_call 23; refine (hasj_any c 0 0 k _).mono ?_; rintro e w5 ⟨rfl, hb⟩; rw [hj]; have hA := hAoff hA hne hb; have hD := (hD.set3 k).below hb; have hB := stp3 hB hle hb; clear hb; obtain ⟨a0, a1, a2, a3, a4⟩ := hA.cells; obtain ⟨d0, d1, d2, d3, d4⟩ := hD.cells)
    | (go_at_call 30; refine (cJ _ (HN.out.below hB.out)).mono ?_; rintro e w6 ⟨rfl, hb⟩; have hA := hA.below hb; have hD := hD.below hb; have hB := stp hB hb; clear hb; obtain ⟨a0, a1, a2, a3, a4⟩ := hA.cells; obtain ⟨d0, d1, d2, d3, d4⟩ := hD.cells))
  refine bodyPost_ret (results_cell (c := c) (t := t) (f := f) (k := k) rfl _ _ rfl (((hA.off hne).off hne).put c t f k)) rfl ?_
  exact ⟨rfl, put_below ((hB.out.setCell hle _).setCell hle _) (Nat.le_refl _)⟩

set_option maxHeartbeats 1600000 in
set_option maxRecDepth 100000 in
theorem p220 (s N R0 : ByteArray) (c : Int) (hc : 0 ≤ c ∧ c < 65536) (hl : N.size ≤ s.size) (hs : s.size ≤ 1000000) (hre : s.extract N.size s.size = R0)
    (cC : ∀ w, Calls Tryd.prog 27 #[.string s, .string ⟨#[32]⟩] w fun e w' => ∃ R, e = .returned (.tuple #[.string N, .string R, .bool (M.has 32 s.data.toList)]) ∧ Below w.heap.size w w')
    (cF : ∀ w, Calls Tryd.prog 28 #[.string N] w fun e w' => e = .returned (.tuple #[.int .u16 c, .bool true]) ∧ Below w.heap.size w w')
    (hk : M.hasK c = true)
    (k : Int) (R1 : ByteArray) (hkb : 0 ≤ k ∧ k < 4294967296) (cT : ∀ w, Nm w → Calls Tryd.prog 29 #[.string R0, .int .i64 32] w fun e w' => e = .returned (.tuple #[.int .u32 k, .string R1, .bool true]) ∧ Below w.heap.size w w')
    (hj : M.jif c = true)
    (t f : Int) (R2 : ByteArray) (cJ : ∀ w, Nm w → Calls Tryd.prog 30 #[.string R1] w fun e w' => e = .returned (.tuple #[.int .u8 t, .int .u8 f, .string R2, .bool true]) ∧ Below w.heap.size w w')
    (he : (R2.toList == []) = false) (w : World) (hN : Nm w) :
    Calls Tryd.prog 12 #[.string s] w fun e w' => e = .returned (.tuple #[.agg #[.int .u16 0, .int .u8 0, .int .u8 0, .int .u32 0], .int .i64 3]) ∧ Below w.heap.size w w' := by
  have HN := Lib.hid hN
  have x1 : (0 : Int) ≤ N.size := by omega
  have x2 : (N.size : Int) ≤ s.size := by omega
  clear hN hl hs
  go_enter Tryd.func12, Tryd.ntmps12
  go_wp2_with (first
    | (go_at_call 27; refine (cC _).mono ?_; rintro e w1 ⟨R, rfl, hb⟩; have hA := (At.new w 0 0 0 0).below hb; have hB := Lib.hid (((Below.refl w.heap.size w).alloc (Nat.le_refl _) _).trans (hb.mono (by simp))); clear hb)
    | (go_at_call 28; refine (cF _).mono ?_; rintro e w2 ⟨rfl, hb⟩; have hA := hA.below hb; have hB := stp hB hb; clear hb)
    | (go_at_call 22; refine (hask_any c 0 0 0 ⟨hc, by simp, by simp, by simp⟩ _).mono ?_; rintro e w3 ⟨rfl, hb⟩; rw [hk]; have hne : w.heap.size ≠ w2.heap.size := Nat.ne_of_lt hA.lt; have hle : w.heap.size ≤ w2.heap.size := hB.out.size; have hA := (hA.alloc _).below hb; have hD := (At.new w2 c 0 0 0).below hb; have hB := Lib.hid ((hB.out.alloc hle _).trans (hb.mono (by simp; omega))); clear hb; obtain ⟨a0, a1, a2, a3, a4⟩ := hA.cells; obtain ⟨d0, d1, d2, d3, d4⟩ := hD.cells)
    | (go_at_call 29; refine (cT _ (HN.out.below hB.out)).mono ?_; rintro e w4 ⟨rfl, hb⟩; have hA := hA.below hb; have hD := hD.below hb; have hB := stp hB hb; clear hb; obtain ⟨a0, a1, a2, a3, a4⟩ := hA.cells; obtain ⟨d0, d1, d2, d3, d4⟩ := hD.cells)
    | (go_at_call 23; refine (hasj_any c 0 0 k _).mono ?_; rintro e w5 ⟨rfl, hb⟩; rw [hj]; have hA := hAoff hA hne hb; have hD := (hD.set3 k).below hb; have hB := stp3 hB hle hb; clear hb; obtain ⟨a0, a1, a2, a3, a4⟩ := hA.cells; obtain ⟨d0, d1, d2, d3, d4⟩ := hD.cells)
    | (go_at_call 30; refine (cJ _ (HN.out.below hB.out)).mono ?_; rintro e w6 ⟨rfl, hb⟩; have hA := hA.below hb; have hD := hD.below hb; have hB := stp hB hb; clear hb; obtain ⟨a0, a1, a2, a3, a4⟩ := hA.cells; obtain ⟨d0, d1, d2, d3, d4⟩ := hD.cells))
  refine bodyPost_ret (results_cell (c := 0) (t := 0) (f := 0) (k := 0) rfl _ _ rfl (((hA.off hne).off hne).put 0 0 0 0)) rfl ?_
  exact ⟨rfl, put_below ((hB.out.setCell hle _).setCell hle _) (Nat.le_refl _)⟩
end Go.Proofs.YtapjjpjiggjlfaaDoor.B
