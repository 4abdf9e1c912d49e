/-
  The reference's Step, as a walk over the Go text: a theorem a kind.
-/
import Derived.Test.YtejolpbdpcllkaaH6
namespace Go.Proofs.Ytejolpbdpcllkaa.B
open Go.ChangeShapes Go.WideShapes Go.ChangeAt Go.RowKit
open Go.Sort hiding Below
set_option linter.unusedVariables false

set_option maxHeartbeats 3200000 in
set_option maxRecDepth 1000000 in
theorem rs2 (b o n cap p : Nat) (c : Int) (t f k : Nat) (r : List Int) (s : M.S) (hn : n ≤ 65536) (hp : s.pc = p) (hpn : p < n) (ok : M.okI (c, t, f, k)) (hr : R.okR r) (hs : M.okS s) (w : World) (hl : LiesAt w b o p (c, t, f, k)) (hkd : M.kind c = 2) :
    Calls Try.prog 13 #[.slice (some ⟨b, o, none⟩) n cap, .agg (RB.enc r), .agg (encS s)] w fun e w' => e = .returned (.agg (encS (M.stepI (c, t, f, k) r s))) ∧ Below w.heap.size w w' := by
  have HF : Hid (M.stepI (c, t, f, k) r s = _) := M.st2 hkd
  have hdx : M.rdX c = false := by unfold M.rdX; rw [hkd]; rfl
  obtain ⟨p0, p1, p2, p3⟩ := hl
  simp only at p0 p1 p2 p3
  have i1 : (p : Int) < (n : Int) := by omega
  have hbk := hid ok.1
  have b0 : 0 ≤ c ∧ c < 65536 := ok.1
  have b1 : 0 ≤ (t : Int) ∧ (t : Int) < 256 := ok.2.1
  have b2 : 0 ≤ (f : Int) ∧ (f : Int) < 256 := ok.2.2.1
  have b3 : 0 ≤ (k : Int) ∧ (k : Int) < 4294967296 := ok.2.2.2
  have hX := RB.lcf_eq
  have hz := s0_lit
  obtain ⟨W, hW⟩ : ∃ W, ((w.alloc (.cells (RB.enc r) 25)).alloc (.cells (encS s) 33)).alloc (.cells (encS M.s0) 33) = W := ⟨_, rfl⟩
  have hB0 : Below w.heap.size w W := by rw [← hW]; exact (((Below.refl _ w).alloc (Nat.le_refl _) _).alloc (by simp) _).alloc (by simp; omega) _
  have hS : St W (w.heap.size + 1) 33 s := by
    rw [← hW]
    have := (St.new (w.alloc (.cells (RB.enc r) 25)) 33 s hs.m.1).alloc (.cells (encS M.s0) 33)
    simpa using this
  have hO : St W (w.heap.size + 1 + 1) 33 M.s0 := by
    rw [← hW]
    have := St.new ((w.alloc (.cells (RB.enc r) 25)).alloc (.cells (encS s) 33)) 33 M.s0 rfl
    simpa using this
  obtain ⟨s1, s2, s3, s4, s5⟩ := hS.cells
  rw [hp] at s1
  have hbl : b < w.heap.size := World.block_lt_of_cell? w ⟨b, o + p * 4, none⟩ p0
  have q0 := (hB0.cell (p := ⟨b, o + p * 4, none⟩) hbl).trans p0
  have q1 := (hB0.cell (p := ⟨b, o + p * 4 + 1, none⟩) hbl).trans p1
  have q2 := (hB0.cell (p := ⟨b, o + p * 4 + 2, none⟩) hbl).trans p2
  have q3 := (hB0.cell (p := ⟨b, o + p * 4 + 3, none⟩) hbl).trans p3
  have hA := At.new W c t f k
  have HB := stp (hid hB0) (al W (.cells #[.int .u16 c, .int .u8 t, .int .u8 f, .int .u32 k] 51))
  have hne : W.heap.size ≠ w.heap.size + 1 := by have := hO.lt; omega
  have hne2 : W.heap.size ≠ w.heap.size + 1 + 1 := by have := hO.lt; omega
  clear p0 p1 p2 p3 hbl hB0
  go_enter Try.func13, Try.ntmps13
  go_wp2_with fail
  refine (rrdX_any _ hbk.out.1 hbk.out.2 _).mono ?_
  rintro e w1 ⟨rfl, hb⟩
  have hA1 := hA.below hb
  have hS1 := (hS.alloc _).below hb
  have hO1 := (hO.alloc _).below hb
  replace HB := stp HB hb
  clear hb hA hS hO s1 s2 s3 s4 s5 q0 q1 q2 q3 hW
  obtain ⟨s1, s2, s3, s4, s5⟩ := hS1.cells
  rw [hp] at s1
  obtain ⟨a0, a1, a2, a3, _⟩ := hA1.cells
  have f0 := hS1.frozen 0
  have hS2 := hS1.setPc ((p : Int) + 1)
  have hO2 : St (w1.setCell ⟨w.heap.size + 1, 0, none⟩ (.int .i64 ((p : Int) + 1))) (w.heap.size + 1 + 1) 33 M.s0 := ⟨by rw [Below.heap_setCell _ _ _ _ (show w.heap.size + 1 + 1 ≠ w.heap.size + 1 by omega)]; exact hO1.1, hO1.2⟩
  have hA2 := hA1.off (b' := w.heap.size + 1) (j := 0) (v := .int .i64 ((p : Int) + 1)) hne
  have HB2 := hid (HB.out.setCell (p := ⟨w.heap.size + 1, 0, none⟩) (by simp) (.int .i64 ((p : Int) + 1)))
  obtain ⟨W2, hW2⟩ : ∃ W2, w1.setCell ⟨w.heap.size + 1, 0, none⟩ (.int .i64 ((p : Int) + 1)) = W2 := ⟨_, rfl⟩
  rw [hW2] at hS2 hO2 hA2 HB2
  obtain ⟨x1, x2, x3, x4, x5⟩ := hS2.cells
  obtain ⟨y0, y1, y2, y3, _⟩ := hA2.cells
  clear hS1 hO1 hA1 HB
  go_wp2_with fail
  refine (rkind_any _ hbk.out.1 hbk.out.2 _).mono ?_
  rintro e w3 ⟨rfl, hb⟩
  rw [hkd]
  have hA3 := hA2.below hb
  have hS3 := hS2.below hb
  have hO3 := hO2.below hb
  have HB3 := stp HB2 hb
  clear hb hW2 s1 s2 s3 s4 s5 a0 a1 a2 a3 f0 x1 x2 x3 x4 x5 y0 y1 y2 y3 hA2 hS2 hO2 HB2
  obtain ⟨s1, s2, s3, s4, s5⟩ := hS3.cells
  obtain ⟨a0, a1, a2, a3, _⟩ := hA3.cells
  simp only at s1 s2 s3 s4 s5
  have g0 := hS3.frozen (1)
  have S0 := hS3.setA 64
  have O0 : St (w3.setCell ⟨w.heap.size + 1, 1, none⟩ (.int .u32 64)) (w.heap.size + 1 + 1) 33 M.s0 := ⟨by rw [Below.heap_setCell _ _ _ _ (show w.heap.size + 1 + 1 ≠ w.heap.size + 1 by omega)]; exact hO3.1, hO3.2⟩
  have H0 := hid (HB3.out.setCell (p := ⟨w.heap.size + 1, 1, none⟩) (by simp) (.int .u32 64))
  have Q0 := hA3.off (b' := w.heap.size + 1) (j := 1) (v := .int .u32 64) hne
  obtain ⟨V0, v0⟩ : ∃ V, w3.setCell ⟨w.heap.size + 1, 1, none⟩ (.int .u32 64) = V := ⟨_, rfl⟩
  rw [v0] at S0 O0 H0 Q0
  obtain ⟨d00, d01, d02, d03, _⟩ := Q0.cells
  obtain ⟨c01, c02, c03, c04, c05⟩ := S0.cells
  simp only at S0 c01 c02 c03 c04 c05
  have hld := S0.load
  have hsz2 := encS_size S0.2
  obtain ⟨W5, hst, hR5, _, _, hB5⟩ := O0.store S0.2
  have HB5 := hid (hB5 w.heap.size w (by omega) H0.out)
  have HR5 := hid hR5
  clear hB5 hR5
  go_wp2
  refine bodyPost_ret (v := .agg (encS (M.stepI (c, t, f, k) r s))) ?_ rfl ⟨rfl, HB5.out⟩
  rw [HF.out]
  refine results_st Try.results13 _ rfl ?_
  have := HR5.out
  rw [← hp] at this
  exact this

set_option maxHeartbeats 3200000 in
set_option maxRecDepth 1000000 in
theorem rs3 (b o n cap p : Nat) (c : Int) (t f k : Nat) (r : List Int) (s : M.S) (hn : n ≤ 65536) (hp : s.pc = p) (hpn : p < n) (ok : M.okI (c, t, f, k)) (hr : R.okR r) (hs : M.okS s) (w : World) (hl : LiesAt w b o p (c, t, f, k)) (hkd : M.kind c = 3) :
    Calls Try.prog 13 #[.slice (some ⟨b, o, none⟩) n cap, .agg (RB.enc r), .agg (encS s)] w fun e w' => e = .returned (.agg (encS (M.stepI (c, t, f, k) r s))) ∧ Below w.heap.size w w' := by
  have HF : Hid (M.stepI (c, t, f, k) r s = _) := M.st3 hkd
  have hdx : M.rdX c = false := by unfold M.rdX; rw [hkd]; rfl
  obtain ⟨p0, p1, p2, p3⟩ := hl
  simp only at p0 p1 p2 p3
  have i1 : (p : Int) < (n : Int) := by omega
  have hbk := hid ok.1
  have b0 : 0 ≤ c ∧ c < 65536 := ok.1
  have b1 : 0 ≤ (t : Int) ∧ (t : Int) < 256 := ok.2.1
  have b2 : 0 ≤ (f : Int) ∧ (f : Int) < 256 := ok.2.2.1
  have b3 : 0 ≤ (k : Int) ∧ (k : Int) < 4294967296 := ok.2.2.2
  have hX := RB.lcf_eq
  have hz := s0_lit
  obtain ⟨W, hW⟩ : ∃ W, ((w.alloc (.cells (RB.enc r) 25)).alloc (.cells (encS s) 33)).alloc (.cells (encS M.s0) 33) = W := ⟨_, rfl⟩
  have hB0 : Below w.heap.size w W := by rw [← hW]; exact (((Below.refl _ w).alloc (Nat.le_refl _) _).alloc (by simp) _).alloc (by simp; omega) _
  have hS : St W (w.heap.size + 1) 33 s := by
    rw [← hW]
    have := (St.new (w.alloc (.cells (RB.enc r) 25)) 33 s hs.m.1).alloc (.cells (encS M.s0) 33)
    simpa using this
  have hO : St W (w.heap.size + 1 + 1) 33 M.s0 := by
    rw [← hW]
    have := St.new ((w.alloc (.cells (RB.enc r) 25)).alloc (.cells (encS s) 33)) 33 M.s0 rfl
    simpa using this
  obtain ⟨s1, s2, s3, s4, s5⟩ := hS.cells
  rw [hp] at s1
  have hbl : b < w.heap.size := World.block_lt_of_cell? w ⟨b, o + p * 4, none⟩ p0
  have q0 := (hB0.cell (p := ⟨b, o + p * 4, none⟩) hbl).trans p0
  have q1 := (hB0.cell (p := ⟨b, o + p * 4 + 1, none⟩) hbl).trans p1
  have q2 := (hB0.cell (p := ⟨b, o + p * 4 + 2, none⟩) hbl).trans p2
  have q3 := (hB0.cell (p := ⟨b, o + p * 4 + 3, none⟩) hbl).trans p3
  have hA := At.new W c t f k
  have HB := stp (hid hB0) (al W (.cells #[.int .u16 c, .int .u8 t, .int .u8 f, .int .u32 k] 51))
  have hne : W.heap.size ≠ w.heap.size + 1 := by have := hO.lt; omega
  have hne2 : W.heap.size ≠ w.heap.size + 1 + 1 := by have := hO.lt; omega
  clear p0 p1 p2 p3 hbl hB0
  go_enter Try.func13, Try.ntmps13
  go_wp2_with fail
  refine (rrdX_any _ hbk.out.1 hbk.out.2 _).mono ?_
  rintro e w1 ⟨rfl, hb⟩
  have hA1 := hA.below hb
  have hS1 := (hS.alloc _).below hb
  have hO1 := (hO.alloc _).below hb
  replace HB := stp HB hb
  clear hb hA hS hO s1 s2 s3 s4 s5 q0 q1 q2 q3 hW
  obtain ⟨s1, s2, s3, s4, s5⟩ := hS1.cells
  rw [hp] at s1
  obtain ⟨a0, a1, a2, a3, _⟩ := hA1.cells
  have f0 := hS1.frozen 0
  have hS2 := hS1.setPc ((p : Int) + 1)
  have hO2 : St (w1.setCell ⟨w.heap.size + 1, 0, none⟩ (.int .i64 ((p : Int) + 1))) (w.heap.size + 1 + 1) 33 M.s0 := ⟨by rw [Below.heap_setCell _ _ _ _ (show w.heap.size + 1 + 1 ≠ w.heap.size + 1 by omega)]; exact hO1.1, hO1.2⟩
  have hA2 := hA1.off (b' := w.heap.size + 1) (j := 0) (v := .int .i64 ((p : Int) + 1)) hne
  have HB2 := hid (HB.out.setCell (p := ⟨w.heap.size + 1, 0, none⟩) (by simp) (.int .i64 ((p : Int) + 1)))
  obtain ⟨W2, hW2⟩ : ∃ W2, w1.setCell ⟨w.heap.size + 1, 0, none⟩ (.int .i64 ((p : Int) + 1)) = W2 := ⟨_, rfl⟩
  rw [hW2] at hS2 hO2 hA2 HB2
  obtain ⟨x1, x2, x3, x4, x5⟩ := hS2.cells
  obtain ⟨y0, y1, y2, y3, _⟩ := hA2.cells
  clear hS1 hO1 hA1 HB
  go_wp2_with fail
  refine (rkind_any _ hbk.out.1 hbk.out.2 _).mono ?_
  rintro e w3 ⟨rfl, hb⟩
  rw [hkd]
  have hA3 := hA2.below hb
  have hS3 := hS2.below hb
  have hO3 := hO2.below hb
  have HB3 := stp HB2 hb
  clear hb hW2 s1 s2 s3 s4 s5 a0 a1 a2 a3 f0 x1 x2 x3 x4 x5 y0 y1 y2 y3 hA2 hS2 hO2 HB2
  obtain ⟨s1, s2, s3, s4, s5⟩ := hS3.cells
  obtain ⟨a0, a1, a2, a3, _⟩ := hA3.cells
  simp only at s1 s2 s3 s4 s5
  have g0 := hS3.frozen (1)
  have S0 := hS3.setA k
  have O0 : St (w3.setCell ⟨w.heap.size + 1, 1, none⟩ (.int .u32 (k : Int))) (w.heap.size + 1 + 1) 33 M.s0 := ⟨by rw [Below.heap_setCell _ _ _ _ (show w.heap.size + 1 + 1 ≠ w.heap.size + 1 by omega)]; exact hO3.1, hO3.2⟩
  have H0 := hid (HB3.out.setCell (p := ⟨w.heap.size + 1, 1, none⟩) (by simp) (.int .u32 (k : Int)))
  have Q0 := hA3.off (b' := w.heap.size + 1) (j := 1) (v := .int .u32 (k : Int)) hne
  obtain ⟨V0, v0⟩ : ∃ V, w3.setCell ⟨w.heap.size + 1, 1, none⟩ (.int .u32 (k : Int)) = V := ⟨_, rfl⟩
  rw [v0] at S0 O0 H0 Q0
  obtain ⟨d00, d01, d02, d03, _⟩ := Q0.cells
  obtain ⟨c01, c02, c03, c04, c05⟩ := S0.cells
  simp only at S0 c01 c02 c03 c04 c05
  have hld := S0.load
  have hsz2 := encS_size S0.2
  obtain ⟨W5, hst, hR5, _, _, hB5⟩ := O0.store S0.2
  have HB5 := hid (hB5 w.heap.size w (by omega) H0.out)
  have HR5 := hid hR5
  clear hB5 hR5
  go_wp2
  refine bodyPost_ret (v := .agg (encS (M.stepI (c, t, f, k) r s))) ?_ rfl ⟨rfl, HB5.out⟩
  rw [HF.out]
  refine results_st Try.results13 _ rfl ?_
  have := HR5.out
  rw [← hp] at this
  exact this

set_option maxHeartbeats 3200000 in
set_option maxRecDepth 1000000 in
theorem rs5 (b o n cap p : Nat) (c : Int) (t f k : Nat) (r : List Int) (s : M.S) (hn : n ≤ 65536) (hp : s.pc = p) (hpn : p < n) (ok : M.okI (c, t, f, k)) (hr : R.okR r) (hs : M.okS s) (w : World) (hl : LiesAt w b o p (c, t, f, k)) (hkd : M.kind c = 5) :
    Calls Try.prog 13 #[.slice (some ⟨b, o, none⟩) n cap, .agg (RB.enc r), .agg (encS s)] w fun e w' => e = .returned (.agg (encS (M.stepI (c, t, f, k) r s))) ∧ Below w.heap.size w w' := by
  have HF : Hid (M.stepI (c, t, f, k) r s = _) := M.st5 hkd
  have hdx : M.rdX c = false := by unfold M.rdX; rw [hkd]; rfl
  obtain ⟨p0, p1, p2, p3⟩ := hl
  simp only at p0 p1 p2 p3
  have i1 : (p : Int) < (n : Int) := by omega
  have hbk := hid ok.1
  have b0 : 0 ≤ c ∧ c < 65536 := ok.1
  have b1 : 0 ≤ (t : Int) ∧ (t : Int) < 256 := ok.2.1
  have b2 : 0 ≤ (f : Int) ∧ (f : Int) < 256 := ok.2.2.1
  have b3 : 0 ≤ (k : Int) ∧ (k : Int) < 4294967296 := ok.2.2.2
  have hX := RB.lcf_eq
  have hz := s0_lit
  obtain ⟨W, hW⟩ : ∃ W, ((w.alloc (.cells (RB.enc r) 25)).alloc (.cells (encS s) 33)).alloc (.cells (encS M.s0) 33) = W := ⟨_, rfl⟩
  have hB0 : Below w.heap.size w W := by rw [← hW]; exact (((Below.refl _ w).alloc (Nat.le_refl _) _).alloc (by simp) _).alloc (by simp; omega) _
  have hS : St W (w.heap.size + 1) 33 s := by
    rw [← hW]
    have := (St.new (w.alloc (.cells (RB.enc r) 25)) 33 s hs.m.1).alloc (.cells (encS M.s0) 33)
    simpa using this
  have hO : St W (w.heap.size + 1 + 1) 33 M.s0 := by
    rw [← hW]
    have := St.new ((w.alloc (.cells (RB.enc r) 25)).alloc (.cells (encS s) 33)) 33 M.s0 rfl
    simpa using this
  obtain ⟨s1, s2, s3, s4, s5⟩ := hS.cells
  rw [hp] at s1
  have hbl : b < w.heap.size := World.block_lt_of_cell? w ⟨b, o + p * 4, none⟩ p0
  have q0 := (hB0.cell (p := ⟨b, o + p * 4, none⟩) hbl).trans p0
  have q1 := (hB0.cell (p := ⟨b, o + p * 4 + 1, none⟩) hbl).trans p1
  have q2 := (hB0.cell (p := ⟨b, o + p * 4 + 2, none⟩) hbl).trans p2
  have q3 := (hB0.cell (p := ⟨b, o + p * 4 + 3, none⟩) hbl).trans p3
  have hA := At.new W c t f k
  have HB := stp (hid hB0) (al W (.cells #[.int .u16 c, .int .u8 t, .int .u8 f, .int .u32 k] 51))
  have hne : W.heap.size ≠ w.heap.size + 1 := by have := hO.lt; omega
  have hne2 : W.heap.size ≠ w.heap.size + 1 + 1 := by have := hO.lt; omega
  clear p0 p1 p2 p3 hbl hB0
  go_enter Try.func13, Try.ntmps13
  go_wp2_with fail
  refine (rrdX_any _ hbk.out.1 hbk.out.2 _).mono ?_
  rintro e w1 ⟨rfl, hb⟩
  have hA1 := hA.below hb
  have hS1 := (hS.alloc _).below hb
  have hO1 := (hO.alloc _).below hb
  replace HB := stp HB hb
  clear hb hA hS hO s1 s2 s3 s4 s5 q0 q1 q2 q3 hW
  obtain ⟨s1, s2, s3, s4, s5⟩ := hS1.cells
  rw [hp] at s1
  obtain ⟨a0, a1, a2, a3, _⟩ := hA1.cells
  have f0 := hS1.frozen 0
  have hS2 := hS1.setPc ((p : Int) + 1)
  have hO2 : St (w1.setCell ⟨w.heap.size + 1, 0, none⟩ (.int .i64 ((p : Int) + 1))) (w.heap.size + 1 + 1) 33 M.s0 := ⟨by rw [Below.heap_setCell _ _ _ _ (show w.heap.size + 1 + 1 ≠ w.heap.size + 1 by omega)]; exact hO1.1, hO1.2⟩
  have hA2 := hA1.off (b' := w.heap.size + 1) (j := 0) (v := .int .i64 ((p : Int) + 1)) hne
  have HB2 := hid (HB.out.setCell (p := ⟨w.heap.size + 1, 0, none⟩) (by simp) (.int .i64 ((p : Int) + 1)))
  obtain ⟨W2, hW2⟩ : ∃ W2, w1.setCell ⟨w.heap.size + 1, 0, none⟩ (.int .i64 ((p : Int) + 1)) = W2 := ⟨_, rfl⟩
  rw [hW2] at hS2 hO2 hA2 HB2
  obtain ⟨x1, x2, x3, x4, x5⟩ := hS2.cells
  obtain ⟨y0, y1, y2, y3, _⟩ := hA2.cells
  clear hS1 hO1 hA1 HB
  go_wp2_with fail
  refine (rkind_any _ hbk.out.1 hbk.out.2 _).mono ?_
  rintro e w3 ⟨rfl, hb⟩
  rw [hkd]
  have hA3 := hA2.below hb
  have hS3 := hS2.below hb
  have hO3 := hO2.below hb
  have HB3 := stp HB2 hb
  clear hb hW2 s1 s2 s3 s4 s5 a0 a1 a2 a3 f0 x1 x2 x3 x4 x5 y0 y1 y2 y3 hA2 hS2 hO2 HB2
  obtain ⟨s1, s2, s3, s4, s5⟩ := hS3.cells
  obtain ⟨a0, a1, a2, a3, _⟩ := hA3.cells
  simp only at s1 s2 s3 s4 s5
  have g0 := hS3.frozen (2)
  have S0 := hS3.setX k
  have O0 : St (w3.setCell ⟨w.heap.size + 1, 2, none⟩ (.int .u32 (k : Int))) (w.heap.size + 1 + 1) 33 M.s0 := ⟨by rw [Below.heap_setCell _ _ _ _ (show w.heap.size + 1 + 1 ≠ w.heap.size + 1 by omega)]; exact hO3.1, hO3.2⟩
  have H0 := hid (HB3.out.setCell (p := ⟨w.heap.size + 1, 2, none⟩) (by simp) (.int .u32 (k : Int)))
  have Q0 := hA3.off (b' := w.heap.size + 1) (j := 2) (v := .int .u32 (k : Int)) hne
  obtain ⟨V0, v0⟩ : ∃ V, w3.setCell ⟨w.heap.size + 1, 2, none⟩ (.int .u32 (k : Int)) = V := ⟨_, rfl⟩
  rw [v0] at S0 O0 H0 Q0
  obtain ⟨d00, d01, d02, d03, _⟩ := Q0.cells
  obtain ⟨c01, c02, c03, c04, c05⟩ := S0.cells
  simp only at S0 c01 c02 c03 c04 c05
  have hld := S0.load
  have hsz2 := encS_size S0.2
  obtain ⟨W5, hst, hR5, _, _, hB5⟩ := O0.store S0.2
  have HB5 := hid (hB5 w.heap.size w (by omega) H0.out)
  have HR5 := hid hR5
  clear hB5 hR5
  go_wp2
  refine bodyPost_ret (v := .agg (encS (M.stepI (c, t, f, k) r s))) ?_ rfl ⟨rfl, HB5.out⟩
  rw [HF.out]
  refine results_st Try.results13 _ rfl ?_
  have := HR5.out
  rw [← hp] at this
  exact this

set_option maxHeartbeats 3200000 in
set_option maxRecDepth 1000000 in
theorem rs7 (b o n cap p : Nat) (c : Int) (t f k : Nat) (r : List Int) (s : M.S) (hn : n ≤ 65536) (hp : s.pc = p) (hpn : p < n) (ok : M.okI (c, t, f, k)) (hr : R.okR r) (hs : M.okS s) (w : World) (hl : LiesAt w b o p (c, t, f, k)) (hkd : M.kind c = 7) :
    Calls Try.prog 13 #[.slice (some ⟨b, o, none⟩) n cap, .agg (RB.enc r), .agg (encS s)] w fun e w' => e = .returned (.agg (encS (M.stepI (c, t, f, k) r s))) ∧ Below w.heap.size w w' := by
  have HF : Hid (M.stepI (c, t, f, k) r s = _) := M.st7 hkd
  have hdx : M.rdX c = false := by unfold M.rdX; rw [hkd]; rfl
  obtain ⟨p0, p1, p2, p3⟩ := hl
  simp only at p0 p1 p2 p3
  have i1 : (p : Int) < (n : Int) := by omega
  have hbk := hid ok.1
  have b0 : 0 ≤ c ∧ c < 65536 := ok.1
  have b1 : 0 ≤ (t : Int) ∧ (t : Int) < 256 := ok.2.1
  have b2 : 0 ≤ (f : Int) ∧ (f : Int) < 256 := ok.2.2.1
  have b3 : 0 ≤ (k : Int) ∧ (k : Int) < 4294967296 := ok.2.2.2
  have hX := RB.lcf_eq
  have hz := s0_lit
  obtain ⟨W, hW⟩ : ∃ W, ((w.alloc (.cells (RB.enc r) 25)).alloc (.cells (encS s) 33)).alloc (.cells (encS M.s0) 33) = W := ⟨_, rfl⟩
  have hB0 : Below w.heap.size w W := by rw [← hW]; exact (((Below.refl _ w).alloc (Nat.le_refl _) _).alloc (by simp) _).alloc (by simp; omega) _
  have hS : St W (w.heap.size + 1) 33 s := by
    rw [← hW]
    have := (St.new (w.alloc (.cells (RB.enc r) 25)) 33 s hs.m.1).alloc (.cells (encS M.s0) 33)
    simpa using this
  have hO : St W (w.heap.size + 1 + 1) 33 M.s0 := by
    rw [← hW]
    have := St.new ((w.alloc (.cells (RB.enc r) 25)).alloc (.cells (encS s) 33)) 33 M.s0 rfl
    simpa using this
  obtain ⟨s1, s2, s3, s4, s5⟩ := hS.cells
  rw [hp] at s1
  have hbl : b < w.heap.size := World.block_lt_of_cell? w ⟨b, o + p * 4, none⟩ p0
  have q0 := (hB0.cell (p := ⟨b, o + p * 4, none⟩) hbl).trans p0
  have q1 := (hB0.cell (p := ⟨b, o + p * 4 + 1, none⟩) hbl).trans p1
  have q2 := (hB0.cell (p := ⟨b, o + p * 4 + 2, none⟩) hbl).trans p2
  have q3 := (hB0.cell (p := ⟨b, o + p * 4 + 3, none⟩) hbl).trans p3
  have hA := At.new W c t f k
  have HB := stp (hid hB0) (al W (.cells #[.int .u16 c, .int .u8 t, .int .u8 f, .int .u32 k] 51))
  have hne : W.heap.size ≠ w.heap.size + 1 := by have := hO.lt; omega
  have hne2 : W.heap.size ≠ w.heap.size + 1 + 1 := by have := hO.lt; omega
  clear p0 p1 p2 p3 hbl hB0
  go_enter Try.func13, Try.ntmps13
  go_wp2_with fail
  refine (rrdX_any _ hbk.out.1 hbk.out.2 _).mono ?_
  rintro e w1 ⟨rfl, hb⟩
  have hA1 := hA.below hb
  have hS1 := (hS.alloc _).below hb
  have hO1 := (hO.alloc _).below hb
  replace HB := stp HB hb
  clear hb hA hS hO s1 s2 s3 s4 s5 q0 q1 q2 q3 hW
  obtain ⟨s1, s2, s3, s4, s5⟩ := hS1.cells
  rw [hp] at s1
  obtain ⟨a0, a1, a2, a3, _⟩ := hA1.cells
  have f0 := hS1.frozen 0
  have hS2 := hS1.setPc ((p : Int) + 1)
  have hO2 : St (w1.setCell ⟨w.heap.size + 1, 0, none⟩ (.int .i64 ((p : Int) + 1))) (w.heap.size + 1 + 1) 33 M.s0 := ⟨by rw [Below.heap_setCell _ _ _ _ (show w.heap.size + 1 + 1 ≠ w.heap.size + 1 by omega)]; exact hO1.1, hO1.2⟩
  have hA2 := hA1.off (b' := w.heap.size + 1) (j := 0) (v := .int .i64 ((p : Int) + 1)) hne
  have HB2 := hid (HB.out.setCell (p := ⟨w.heap.size + 1, 0, none⟩) (by simp) (.int .i64 ((p : Int) + 1)))
  obtain ⟨W2, hW2⟩ : ∃ W2, w1.setCell ⟨w.heap.size + 1, 0, none⟩ (.int .i64 ((p : Int) + 1)) = W2 := ⟨_, rfl⟩
  rw [hW2] at hS2 hO2 hA2 HB2
  obtain ⟨x1, x2, x3, x4, x5⟩ := hS2.cells
  obtain ⟨y0, y1, y2, y3, _⟩ := hA2.cells
  clear hS1 hO1 hA1 HB
  go_wp2_with fail
  refine (rkind_any _ hbk.out.1 hbk.out.2 _).mono ?_
  rintro e w3 ⟨rfl, hb⟩
  rw [hkd]
  have hA3 := hA2.below hb
  have hS3 := hS2.below hb
  have hO3 := hO2.below hb
  have HB3 := stp HB2 hb
  clear hb hW2 s1 s2 s3 s4 s5 a0 a1 a2 a3 f0 x1 x2 x3 x4 x5 y0 y1 y2 y3 hA2 hS2 hO2 HB2
  obtain ⟨s1, s2, s3, s4, s5⟩ := hS3.cells
  obtain ⟨a0, a1, a2, a3, _⟩ := hA3.cells
  simp only at s1 s2 s3 s4 s5
  have g0 := hS3.frozen (2)
  have S0 := hS3.setX 64
  have O0 : St (w3.setCell ⟨w.heap.size + 1, 2, none⟩ (.int .u32 64)) (w.heap.size + 1 + 1) 33 M.s0 := ⟨by rw [Below.heap_setCell _ _ _ _ (show w.heap.size + 1 + 1 ≠ w.heap.size + 1 by omega)]; exact hO3.1, hO3.2⟩
  have H0 := hid (HB3.out.setCell (p := ⟨w.heap.size + 1, 2, none⟩) (by simp) (.int .u32 64))
  have Q0 := hA3.off (b' := w.heap.size + 1) (j := 2) (v := .int .u32 64) hne
  obtain ⟨V0, v0⟩ : ∃ V, w3.setCell ⟨w.heap.size + 1, 2, none⟩ (.int .u32 64) = V := ⟨_, rfl⟩
  rw [v0] at S0 O0 H0 Q0
  obtain ⟨d00, d01, d02, d03, _⟩ := Q0.cells
  obtain ⟨c01, c02, c03, c04, c05⟩ := S0.cells
  simp only at S0 c01 c02 c03 c04 c05
  have hld := S0.load
  have hsz2 := encS_size S0.2
  obtain ⟨W5, hst, hR5, _, _, hB5⟩ := O0.store S0.2
  have HB5 := hid (hB5 w.heap.size w (by omega) H0.out)
  have HR5 := hid hR5
  clear hB5 hR5
  go_wp2
  refine bodyPost_ret (v := .agg (encS (M.stepI (c, t, f, k) r s))) ?_ rfl ⟨rfl, HB5.out⟩
  rw [HF.out]
  refine results_st Try.results13 _ rfl ?_
  have := HR5.out
  rw [← hp] at this
  exact this

set_option maxHeartbeats 3200000 in
set_option maxRecDepth 1000000 in
theorem rs15 (b o n cap p : Nat) (c : Int) (t f k : Nat) (r : List Int) (s : M.S) (hn : n ≤ 65536) (hp : s.pc = p) (hpn : p < n) (ok : M.okI (c, t, f, k)) (hr : R.okR r) (hs : M.okS s) (w : World) (hl : LiesAt w b o p (c, t, f, k)) (hkd : M.kind c = 15) :
    Calls Try.prog 13 #[.slice (some ⟨b, o, none⟩) n cap, .agg (RB.enc r), .agg (encS s)] w fun e w' => e = .returned (.agg (encS (M.stepI (c, t, f, k) r s))) ∧ Below w.heap.size w w' := by
  have HF : Hid (M.stepI (c, t, f, k) r s = _) := M.st15 hkd
  have hdx : M.rdX c = false := by unfold M.rdX; rw [hkd]; rfl
  obtain ⟨p0, p1, p2, p3⟩ := hl
  simp only at p0 p1 p2 p3
  have i1 : (p : Int) < (n : Int) := by omega
  have hbk := hid ok.1
  have b0 : 0 ≤ c ∧ c < 65536 := ok.1
  have b1 : 0 ≤ (t : Int) ∧ (t : Int) < 256 := ok.2.1
  have b2 : 0 ≤ (f : Int) ∧ (f : Int) < 256 := ok.2.2.1
  have b3 : 0 ≤ (k : Int) ∧ (k : Int) < 4294967296 := ok.2.2.2
  have hX := RB.lcf_eq
  have hz := s0_lit
  obtain ⟨W, hW⟩ : ∃ W, ((w.alloc (.cells (RB.enc r) 25)).alloc (.cells (encS s) 33)).alloc (.cells (encS M.s0) 33) = W := ⟨_, rfl⟩
  have hB0 : Below w.heap.size w W := by rw [← hW]; exact (((Below.refl _ w).alloc (Nat.le_refl _) _).alloc (by simp) _).alloc (by simp; omega) _
  have hS : St W (w.heap.size + 1) 33 s := by
    rw [← hW]
    have := (St.new (w.alloc (.cells (RB.enc r) 25)) 33 s hs.m.1).alloc (.cells (encS M.s0) 33)
    simpa using this
  have hO : St W (w.heap.size + 1 + 1) 33 M.s0 := by
    rw [← hW]
    have := St.new ((w.alloc (.cells (RB.enc r) 25)).alloc (.cells (encS s) 33)) 33 M.s0 rfl
    simpa using this
  obtain ⟨s1, s2, s3, s4, s5⟩ := hS.cells
  rw [hp] at s1
  have hbl : b < w.heap.size := World.block_lt_of_cell? w ⟨b, o + p * 4, none⟩ p0
  have q0 := (hB0.cell (p := ⟨b, o + p * 4, none⟩) hbl).trans p0
  have q1 := (hB0.cell (p := ⟨b, o + p * 4 + 1, none⟩) hbl).trans p1
  have q2 := (hB0.cell (p := ⟨b, o + p * 4 + 2, none⟩) hbl).trans p2
  have q3 := (hB0.cell (p := ⟨b, o + p * 4 + 3, none⟩) hbl).trans p3
  have hA := At.new W c t f k
  have HB := stp (hid hB0) (al W (.cells #[.int .u16 c, .int .u8 t, .int .u8 f, .int .u32 k] 51))
  have hne : W.heap.size ≠ w.heap.size + 1 := by have := hO.lt; omega
  have hne2 : W.heap.size ≠ w.heap.size + 1 + 1 := by have := hO.lt; omega
  clear p0 p1 p2 p3 hbl hB0
  go_enter Try.func13, Try.ntmps13
  go_wp2_with fail
  refine (rrdX_any _ hbk.out.1 hbk.out.2 _).mono ?_
  rintro e w1 ⟨rfl, hb⟩
  have hA1 := hA.below hb
  have hS1 := (hS.alloc _).below hb
  have hO1 := (hO.alloc _).below hb
  replace HB := stp HB hb
  clear hb hA hS hO s1 s2 s3 s4 s5 q0 q1 q2 q3 hW
  obtain ⟨s1, s2, s3, s4, s5⟩ := hS1.cells
  rw [hp] at s1
  obtain ⟨a0, a1, a2, a3, _⟩ := hA1.cells
  have f0 := hS1.frozen 0
  have hS2 := hS1.setPc ((p : Int) + 1)
  have hO2 : St (w1.setCell ⟨w.heap.size + 1, 0, none⟩ (.int .i64 ((p : Int) + 1))) (w.heap.size + 1 + 1) 33 M.s0 := ⟨by rw [Below.heap_setCell _ _ _ _ (show w.heap.size + 1 + 1 ≠ w.heap.size + 1 by omega)]; exact hO1.1, hO1.2⟩
  have hA2 := hA1.off (b' := w.heap.size + 1) (j := 0) (v := .int .i64 ((p : Int) + 1)) hne
  have HB2 := hid (HB.out.setCell (p := ⟨w.heap.size + 1, 0, none⟩) (by simp) (.int .i64 ((p : Int) + 1)))
  obtain ⟨W2, hW2⟩ : ∃ W2, w1.setCell ⟨w.heap.size + 1, 0, none⟩ (.int .i64 ((p : Int) + 1)) = W2 := ⟨_, rfl⟩
  rw [hW2] at hS2 hO2 hA2 HB2
  obtain ⟨x1, x2, x3, x4, x5⟩ := hS2.cells
  obtain ⟨y0, y1, y2, y3, _⟩ := hA2.cells
  clear hS1 hO1 hA1 HB
  go_wp2_with fail
  refine (rkind_any _ hbk.out.1 hbk.out.2 _).mono ?_
  rintro e w3 ⟨rfl, hb⟩
  rw [hkd]
  have hA3 := hA2.below hb
  have hS3 := hS2.below hb
  have hO3 := hO2.below hb
  have HB3 := stp HB2 hb
  clear hb hW2 s1 s2 s3 s4 s5 a0 a1 a2 a3 f0 x1 x2 x3 x4 x5 y0 y1 y2 y3 hA2 hS2 hO2 HB2
  obtain ⟨s1, s2, s3, s4, s5⟩ := hS3.cells
  obtain ⟨a0, a1, a2, a3, _⟩ := hA3.cells
  simp only at s1 s2 s3 s4 s5
  have g0 := hS3.frozen (2)
  have S0 := hS3.setX s.a
  have O0 : St (w3.setCell ⟨w.heap.size + 1, 2, none⟩ (.int .u32 s.a)) (w.heap.size + 1 + 1) 33 M.s0 := ⟨by rw [Below.heap_setCell _ _ _ _ (show w.heap.size + 1 + 1 ≠ w.heap.size + 1 by omega)]; exact hO3.1, hO3.2⟩
  have H0 := hid (HB3.out.setCell (p := ⟨w.heap.size + 1, 2, none⟩) (by simp) (.int .u32 s.a))
  have Q0 := hA3.off (b' := w.heap.size + 1) (j := 2) (v := .int .u32 s.a) hne
  obtain ⟨V0, v0⟩ : ∃ V, w3.setCell ⟨w.heap.size + 1, 2, none⟩ (.int .u32 s.a) = V := ⟨_, rfl⟩
  rw [v0] at S0 O0 H0 Q0
  obtain ⟨d00, d01, d02, d03, _⟩ := Q0.cells
  obtain ⟨c01, c02, c03, c04, c05⟩ := S0.cells
  simp only at S0 c01 c02 c03 c04 c05
  have hld := S0.load
  have hsz2 := encS_size S0.2
  obtain ⟨W5, hst, hR5, _, _, hB5⟩ := O0.store S0.2
  have HB5 := hid (hB5 w.heap.size w (by omega) H0.out)
  have HR5 := hid hR5
  clear hB5 hR5
  go_wp2
  refine bodyPost_ret (v := .agg (encS (M.stepI (c, t, f, k) r s))) ?_ rfl ⟨rfl, HB5.out⟩
  rw [HF.out]
  refine results_st Try.results13 _ rfl ?_
  have := HR5.out
  rw [← hp] at this
  exact this

set_option maxHeartbeats 3200000 in
set_option maxRecDepth 1000000 in
theorem rs16 (b o n cap p : Nat) (c : Int) (t f k : Nat) (r : List Int) (s : M.S) (hn : n ≤ 65536) (hp : s.pc = p) (hpn : p < n) (ok : M.okI (c, t, f, k)) (hr : R.okR r) (hs : M.okS s) (w : World) (hl : LiesAt w b o p (c, t, f, k)) (hkd : M.kind c = 16) :
    Calls Try.prog 13 #[.slice (some ⟨b, o, none⟩) n cap, .agg (RB.enc r), .agg (encS s)] w fun e w' => e = .returned (.agg (encS (M.stepI (c, t, f, k) r s))) ∧ Below w.heap.size w w' := by
  have HF : Hid (M.stepI (c, t, f, k) r s = _) := M.st16 hkd
  have hdx : M.rdX c = true := by unfold M.rdX; rw [hkd]; rfl
  obtain ⟨p0, p1, p2, p3⟩ := hl
  simp only at p0 p1 p2 p3
  have i1 : (p : Int) < (n : Int) := by omega
  have hbk := hid ok.1
  have b0 : 0 ≤ c ∧ c < 65536 := ok.1
  have b1 : 0 ≤ (t : Int) ∧ (t : Int) < 256 := ok.2.1
  have b2 : 0 ≤ (f : Int) ∧ (f : Int) < 256 := ok.2.2.1
  have b3 : 0 ≤ (k : Int) ∧ (k : Int) < 4294967296 := ok.2.2.2
  have hX := RB.lcf_eq
  have hz := s0_lit
  obtain ⟨W, hW⟩ : ∃ W, ((w.alloc (.cells (RB.enc r) 25)).alloc (.cells (encS s) 33)).alloc (.cells (encS M.s0) 33) = W := ⟨_, rfl⟩
  have hB0 : Below w.heap.size w W := by rw [← hW]; exact (((Below.refl _ w).alloc (Nat.le_refl _) _).alloc (by simp) _).alloc (by simp; omega) _
  have hS : St W (w.heap.size + 1) 33 s := by
    rw [← hW]
    have := (St.new (w.alloc (.cells (RB.enc r) 25)) 33 s hs.m.1).alloc (.cells (encS M.s0) 33)
    simpa using this
  have hO : St W (w.heap.size + 1 + 1) 33 M.s0 := by
    rw [← hW]
    have := St.new ((w.alloc (.cells (RB.enc r) 25)).alloc (.cells (encS s) 33)) 33 M.s0 rfl
    simpa using this
  obtain ⟨s1, s2, s3, s4, s5⟩ := hS.cells
  rw [hp] at s1
  have hbl : b < w.heap.size := World.block_lt_of_cell? w ⟨b, o + p * 4, none⟩ p0
  have q0 := (hB0.cell (p := ⟨b, o + p * 4, none⟩) hbl).trans p0
  have q1 := (hB0.cell (p := ⟨b, o + p * 4 + 1, none⟩) hbl).trans p1
  have q2 := (hB0.cell (p := ⟨b, o + p * 4 + 2, none⟩) hbl).trans p2
  have q3 := (hB0.cell (p := ⟨b, o + p * 4 + 3, none⟩) hbl).trans p3
  have hA := At.new W c t f k
  have HB := stp (hid hB0) (al W (.cells #[.int .u16 c, .int .u8 t, .int .u8 f, .int .u32 k] 51))
  have hne : W.heap.size ≠ w.heap.size + 1 := by have := hO.lt; omega
  have hne2 : W.heap.size ≠ w.heap.size + 1 + 1 := by have := hO.lt; omega
  clear p0 p1 p2 p3 hbl hB0
  go_enter Try.func13, Try.ntmps13
  go_wp2_with fail
  refine (rrdX_any _ hbk.out.1 hbk.out.2 _).mono ?_
  rintro e w1 ⟨rfl, hb⟩
  have hA1 := hA.below hb
  have hS1 := (hS.alloc _).below hb
  have hO1 := (hO.alloc _).below hb
  replace HB := stp HB hb
  clear hb hA hS hO s1 s2 s3 s4 s5 q0 q1 q2 q3 hW
  obtain ⟨s1, s2, s3, s4, s5⟩ := hS1.cells
  rw [hp] at s1
  obtain ⟨a0, a1, a2, a3, _⟩ := hA1.cells
  have f0 := hS1.frozen 0
  have hS2 := hS1.setPc ((p : Int) + 1)
  have hO2 : St (w1.setCell ⟨w.heap.size + 1, 0, none⟩ (.int .i64 ((p : Int) + 1))) (w.heap.size + 1 + 1) 33 M.s0 := ⟨by rw [Below.heap_setCell _ _ _ _ (show w.heap.size + 1 + 1 ≠ w.heap.size + 1 by omega)]; exact hO1.1, hO1.2⟩
  have hA2 := hA1.off (b' := w.heap.size + 1) (j := 0) (v := .int .i64 ((p : Int) + 1)) hne
  have HB2 := hid (HB.out.setCell (p := ⟨w.heap.size + 1, 0, none⟩) (by simp) (.int .i64 ((p : Int) + 1)))
  obtain ⟨W2, hW2⟩ : ∃ W2, w1.setCell ⟨w.heap.size + 1, 0, none⟩ (.int .i64 ((p : Int) + 1)) = W2 := ⟨_, rfl⟩
  rw [hW2] at hS2 hO2 hA2 HB2
  obtain ⟨x1, x2, x3, x4, x5⟩ := hS2.cells
  obtain ⟨y0, y1, y2, y3, _⟩ := hA2.cells
  clear hS1 hO1 hA1 HB
  go_wp2_with fail
  refine (rkind_any _ hbk.out.1 hbk.out.2 _).mono ?_
  rintro e w3 ⟨rfl, hb⟩
  rw [hkd]
  have hA3 := hA2.below hb
  have hS3 := hS2.below hb
  have hO3 := hO2.below hb
  have HB3 := stp HB2 hb
  clear hb hW2 s1 s2 s3 s4 s5 a0 a1 a2 a3 f0 x1 x2 x3 x4 x5 y0 y1 y2 y3 hA2 hS2 hO2 HB2
  obtain ⟨s1, s2, s3, s4, s5⟩ := hS3.cells
  obtain ⟨a0, a1, a2, a3, _⟩ := hA3.cells
  simp only at s1 s2 s3 s4 s5
  have g0 := hS3.frozen (1)
  have S0 := hS3.setA s.x
  have O0 : St (w3.setCell ⟨w.heap.size + 1, 1, none⟩ (.int .u32 s.x)) (w.heap.size + 1 + 1) 33 M.s0 := ⟨by rw [Below.heap_setCell _ _ _ _ (show w.heap.size + 1 + 1 ≠ w.heap.size + 1 by omega)]; exact hO3.1, hO3.2⟩
  have H0 := hid (HB3.out.setCell (p := ⟨w.heap.size + 1, 1, none⟩) (by simp) (.int .u32 s.x))
  have Q0 := hA3.off (b' := w.heap.size + 1) (j := 1) (v := .int .u32 s.x) hne
  obtain ⟨V0, v0⟩ : ∃ V, w3.setCell ⟨w.heap.size + 1, 1, none⟩ (.int .u32 s.x) = V := ⟨_, rfl⟩
  rw [v0] at S0 O0 H0 Q0
  obtain ⟨d00, d01, d02, d03, _⟩ := Q0.cells
  obtain ⟨c01, c02, c03, c04, c05⟩ := S0.cells
  simp only at S0 c01 c02 c03 c04 c05
  have hld := S0.load
  have hsz2 := encS_size S0.2
  obtain ⟨W5, hst, hR5, _, _, hB5⟩ := O0.store S0.2
  have HB5 := hid (hB5 w.heap.size w (by omega) H0.out)
  have HR5 := hid hR5
  clear hB5 hR5
  go_wp2
  refine bodyPost_ret (v := .agg (encS (M.stepI (c, t, f, k) r s))) ?_ rfl ⟨rfl, HB5.out⟩
  rw [HF.out]
  refine results_st Try.results13 _ rfl ?_
  have := HR5.out
  rw [← hp] at this
  exact this

set_option maxHeartbeats 3200000 in
set_option maxRecDepth 1000000 in
theorem rs1 (b o n cap p : Nat) (c : Int) (t f k : Nat) (r : List Int) (s : M.S) (hn : n ≤ 65536) (hp : s.pc = p) (hpn : p < n) (ok : M.okI (c, t, f, k)) (hr : R.okR r) (hs : M.okS s) (w : World) (hl : LiesAt w b o p (c, t, f, k)) (hkd : M.kind c = 1) (d : Nat) (hd : k = 4 * d) (hd16 : d < 16) :
    Calls Try.prog 13 #[.slice (some ⟨b, o, none⟩) n cap, .agg (RB.enc r), .agg (encS s)] w fun e w' => e = .returned (.agg (encS (M.stepI (c, t, f, k) r s))) ∧ Below w.heap.size w w' := by
  have hdn : ((k : Int) / 4).toNat = d := by omega
  have hkr : d < 16 := hd16
  have e4 : (k : Int) / 4 = (d : Int) := by omega
  have e5 : (d : Int) < 16 := by omega
  clear hd
  have HF : Hid (M.stepI (c, t, f, k) r s = _) := (hid (show M.stepI (c, (t : Int), (f : Int), (k : Int)) r s = { s with a := R.at_ r d, pc := s.pc + 1 } by rw [M.st1 hkd, hdn]))
  have hdx : M.rdX c = false := by unfold M.rdX; rw [hkd]; rfl
  obtain ⟨p0, p1, p2, p3⟩ := hl
  simp only at p0 p1 p2 p3
  have i1 : (p : Int) < (n : Int) := by omega
  have hbk := hid ok.1
  have b0 : 0 ≤ c ∧ c < 65536 := ok.1
  have b1 : 0 ≤ (t : Int) ∧ (t : Int) < 256 := ok.2.1
  have b2 : 0 ≤ (f : Int) ∧ (f : Int) < 256 := ok.2.2.1
  have b3 : 0 ≤ (k : Int) ∧ (k : Int) < 4294967296 := ok.2.2.2
  have hX := RB.lcf_eq
  have hz := s0_lit
  obtain ⟨W, hW⟩ : ∃ W, ((w.alloc (.cells (RB.enc r) 25)).alloc (.cells (encS s) 33)).alloc (.cells (encS M.s0) 33) = W := ⟨_, rfl⟩
  have hB0 : Below w.heap.size w W := by rw [← hW]; exact (((Below.refl _ w).alloc (Nat.le_refl _) _).alloc (by simp) _).alloc (by simp; omega) _
  have hS : St W (w.heap.size + 1) 33 s := by
    rw [← hW]
    have := (St.new (w.alloc (.cells (RB.enc r) 25)) 33 s hs.m.1).alloc (.cells (encS M.s0) 33)
    simpa using this
  have hO : St W (w.heap.size + 1 + 1) 33 M.s0 := by
    rw [← hW]
    have := St.new ((w.alloc (.cells (RB.enc r) 25)).alloc (.cells (encS s) 33)) 33 M.s0 rfl
    simpa using this
  have hRc : RB.Rec W w.heap.size r := by
    rw [← hW]
    exact ((RB.Rec.new w r hr.1).alloc _).alloc _
  obtain ⟨s1, s2, s3, s4, s5⟩ := hS.cells
  rw [hp] at s1
  have hbl : b < w.heap.size := World.block_lt_of_cell? w ⟨b, o + p * 4, none⟩ p0
  have q0 := (hB0.cell (p := ⟨b, o + p * 4, none⟩) hbl).trans p0
  have q1 := (hB0.cell (p := ⟨b, o + p * 4 + 1, none⟩) hbl).trans p1
  have q2 := (hB0.cell (p := ⟨b, o + p * 4 + 2, none⟩) hbl).trans p2
  have q3 := (hB0.cell (p := ⟨b, o + p * 4 + 3, none⟩) hbl).trans p3
  have hA := At.new W c t f k
  have HB := stp (hid hB0) (al W (.cells #[.int .u16 c, .int .u8 t, .int .u8 f, .int .u32 k] 51))
  have hne : W.heap.size ≠ w.heap.size + 1 := by have := hO.lt; omega
  have hne2 : W.heap.size ≠ w.heap.size + 1 + 1 := by have := hO.lt; omega
  clear p0 p1 p2 p3 hbl hB0
  go_enter Try.func13, Try.ntmps13
  go_wp2_with fail
  refine (rrdX_any _ hbk.out.1 hbk.out.2 _).mono ?_
  rintro e w1 ⟨rfl, hb⟩
  have hA1 := hA.below hb
  have hS1 := (hS.alloc _).below hb
  have hO1 := (hO.alloc _).below hb
  have hRc1 := (hRc.alloc _).below hb (RB.Rec.alloc hRc _).lt
  replace HB := stp HB hb
  clear hb hA hS hO s1 s2 s3 s4 s5 q0 q1 q2 q3 hW hRc
  obtain ⟨s1, s2, s3, s4, s5⟩ := hS1.cells
  rw [hp] at s1
  obtain ⟨a0, a1, a2, a3, _⟩ := hA1.cells
  have f0 := hS1.frozen 0
  have hS2 := hS1.setPc ((p : Int) + 1)
  have hO2 : St (w1.setCell ⟨w.heap.size + 1, 0, none⟩ (.int .i64 ((p : Int) + 1))) (w.heap.size + 1 + 1) 33 M.s0 := ⟨by rw [Below.heap_setCell _ _ _ _ (show w.heap.size + 1 + 1 ≠ w.heap.size + 1 by omega)]; exact hO1.1, hO1.2⟩
  have hA2 := hA1.off (b' := w.heap.size + 1) (j := 0) (v := .int .i64 ((p : Int) + 1)) hne
  have hRc2 : RB.Rec (w1.setCell ⟨w.heap.size + 1, 0, none⟩ (.int .i64 ((p : Int) + 1))) w.heap.size r := ⟨by rw [Below.heap_setCell _ _ _ _ (show w.heap.size ≠ w.heap.size + 1 by omega)]; exact hRc1.1, hRc1.2⟩
  have HB2 := hid (HB.out.setCell (p := ⟨w.heap.size + 1, 0, none⟩) (by simp) (.int .i64 ((p : Int) + 1)))
  obtain ⟨W2, hW2⟩ : ∃ W2, w1.setCell ⟨w.heap.size + 1, 0, none⟩ (.int .i64 ((p : Int) + 1)) = W2 := ⟨_, rfl⟩
  rw [hW2] at hS2 hO2 hA2 HB2 hRc2
  obtain ⟨x1, x2, x3, x4, x5⟩ := hS2.cells
  obtain ⟨y0, y1, y2, y3, _⟩ := hA2.cells
  clear hS1 hO1 hA1 HB hRc1
  go_wp2_with fail
  refine (rkind_any _ hbk.out.1 hbk.out.2 _).mono ?_
  rintro e w3 ⟨rfl, hb⟩
  rw [hkd]
  have hA3 := hA2.below hb
  have hS3 := hS2.below hb
  have hO3 := hO2.below hb
  have hRc3 := hRc2.below hb hRc2.lt
  have HB3 := stp HB2 hb
  clear hb hW2 s1 s2 s3 s4 s5 a0 a1 a2 a3 f0 x1 x2 x3 x4 x5 y0 y1 y2 y3 hA2 hS2 hO2 HB2 hRc2
  obtain ⟨s1, s2, s3, s4, s5⟩ := hS3.cells
  obtain ⟨a0, a1, a2, a3, _⟩ := hA3.cells
  simp only at s1 s2 s3 s4 s5
  have hrk := hRc3.cell d hkr
  have g0 := hS3.frozen (1)
  have S0 := hS3.setA (R.at_ r d)
  have O0 : St (w3.setCell ⟨w.heap.size + 1, 1, none⟩ (.int .u32 (R.at_ r d))) (w.heap.size + 1 + 1) 33 M.s0 := ⟨by rw [Below.heap_setCell _ _ _ _ (show w.heap.size + 1 + 1 ≠ w.heap.size + 1 by omega)]; exact hO3.1, hO3.2⟩
  have H0 := hid (HB3.out.setCell (p := ⟨w.heap.size + 1, 1, none⟩) (by simp) (.int .u32 (R.at_ r d)))
  have Q0 := hA3.off (b' := w.heap.size + 1) (j := 1) (v := .int .u32 (R.at_ r d)) hne
  obtain ⟨V0, v0⟩ : ∃ V, w3.setCell ⟨w.heap.size + 1, 1, none⟩ (.int .u32 (R.at_ r d)) = V := ⟨_, rfl⟩
  rw [v0] at S0 O0 H0 Q0
  obtain ⟨d00, d01, d02, d03, _⟩ := Q0.cells
  obtain ⟨c01, c02, c03, c04, c05⟩ := S0.cells
  simp only at S0 c01 c02 c03 c04 c05
  have hld := S0.load
  have hsz2 := encS_size S0.2
  obtain ⟨W5, hst, hR5, _, _, hB5⟩ := O0.store S0.2
  have HB5 := hid (hB5 w.heap.size w (by omega) H0.out)
  have HR5 := hid hR5
  clear hB5 hR5
  go_wp2
  refine bodyPost_ret (v := .agg (encS (M.stepI (c, t, f, k) r s))) ?_ rfl ⟨rfl, HB5.out⟩
  rw [HF.out]
  refine results_st Try.results13 _ rfl ?_
  have := HR5.out
  rw [← hp] at this
  exact this

set_option maxHeartbeats 3200000 in
set_option maxRecDepth 1000000 in
theorem rs4 (b o n cap p : Nat) (c : Int) (t f k : Nat) (r : List Int) (s : M.S) (hn : n ≤ 65536) (hp : s.pc = p) (hpn : p < n) (ok : M.okI (c, t, f, k)) (hr : R.okR r) (hs : M.okS s) (w : World) (hl : LiesAt w b o p (c, t, f, k)) (hkd : M.kind c = 4) (hkm : k < 16) :
    Calls Try.prog 13 #[.slice (some ⟨b, o, none⟩) n cap, .agg (RB.enc r), .agg (encS s)] w fun e w' => e = .returned (.agg (encS (M.stepI (c, t, f, k) r s))) ∧ Below w.heap.size w w' := by
  have HF : Hid (M.stepI (c, t, f, k) r s = _) := M.st4 hkd
  have hdx : M.rdX c = false := by unfold M.rdX; rw [hkd]; rfl
  have e5 : (k : Int) < 16 := by omega
  obtain ⟨p0, p1, p2, p3⟩ := hl
  simp only at p0 p1 p2 p3
  have i1 : (p : Int) < (n : Int) := by omega
  have hbk := hid ok.1
  have b0 : 0 ≤ c ∧ c < 65536 := ok.1
  have b1 : 0 ≤ (t : Int) ∧ (t : Int) < 256 := ok.2.1
  have b2 : 0 ≤ (f : Int) ∧ (f : Int) < 256 := ok.2.2.1
  have b3 : 0 ≤ (k : Int) ∧ (k : Int) < 4294967296 := ok.2.2.2
  have hX := RB.lcf_eq
  have hz := s0_lit
  obtain ⟨W, hW⟩ : ∃ W, ((w.alloc (.cells (RB.enc r) 25)).alloc (.cells (encS s) 33)).alloc (.cells (encS M.s0) 33) = W := ⟨_, rfl⟩
  have hB0 : Below w.heap.size w W := by rw [← hW]; exact (((Below.refl _ w).alloc (Nat.le_refl _) _).alloc (by simp) _).alloc (by simp; omega) _
  have hS : St W (w.heap.size + 1) 33 s := by
    rw [← hW]
    have := (St.new (w.alloc (.cells (RB.enc r) 25)) 33 s hs.m.1).alloc (.cells (encS M.s0) 33)
    simpa using this
  have hO : St W (w.heap.size + 1 + 1) 33 M.s0 := by
    rw [← hW]
    have := St.new ((w.alloc (.cells (RB.enc r) 25)).alloc (.cells (encS s) 33)) 33 M.s0 rfl
    simpa using this
  obtain ⟨s1, s2, s3, s4, s5⟩ := hS.cells
  rw [hp] at s1
  have hbl : b < w.heap.size := World.block_lt_of_cell? w ⟨b, o + p * 4, none⟩ p0
  have q0 := (hB0.cell (p := ⟨b, o + p * 4, none⟩) hbl).trans p0
  have q1 := (hB0.cell (p := ⟨b, o + p * 4 + 1, none⟩) hbl).trans p1
  have q2 := (hB0.cell (p := ⟨b, o + p * 4 + 2, none⟩) hbl).trans p2
  have q3 := (hB0.cell (p := ⟨b, o + p * 4 + 3, none⟩) hbl).trans p3
  have hA := At.new W c t f k
  have HB := stp (hid hB0) (al W (.cells #[.int .u16 c, .int .u8 t, .int .u8 f, .int .u32 k] 51))
  have hne : W.heap.size ≠ w.heap.size + 1 := by have := hO.lt; omega
  have hne2 : W.heap.size ≠ w.heap.size + 1 + 1 := by have := hO.lt; omega
  clear p0 p1 p2 p3 hbl hB0
  go_enter Try.func13, Try.ntmps13
  go_wp2_with fail
  refine (rrdX_any _ hbk.out.1 hbk.out.2 _).mono ?_
  rintro e w1 ⟨rfl, hb⟩
  have hA1 := hA.below hb
  have hS1 := (hS.alloc _).below hb
  have hO1 := (hO.alloc _).below hb
  replace HB := stp HB hb
  clear hb hA hS hO s1 s2 s3 s4 s5 q0 q1 q2 q3 hW
  obtain ⟨s1, s2, s3, s4, s5⟩ := hS1.cells
  rw [hp] at s1
  obtain ⟨a0, a1, a2, a3, _⟩ := hA1.cells
  have f0 := hS1.frozen 0
  have hS2 := hS1.setPc ((p : Int) + 1)
  have hO2 : St (w1.setCell ⟨w.heap.size + 1, 0, none⟩ (.int .i64 ((p : Int) + 1))) (w.heap.size + 1 + 1) 33 M.s0 := ⟨by rw [Below.heap_setCell _ _ _ _ (show w.heap.size + 1 + 1 ≠ w.heap.size + 1 by omega)]; exact hO1.1, hO1.2⟩
  have hA2 := hA1.off (b' := w.heap.size + 1) (j := 0) (v := .int .i64 ((p : Int) + 1)) hne
  have HB2 := hid (HB.out.setCell (p := ⟨w.heap.size + 1, 0, none⟩) (by simp) (.int .i64 ((p : Int) + 1)))
  obtain ⟨W2, hW2⟩ : ∃ W2, w1.setCell ⟨w.heap.size + 1, 0, none⟩ (.int .i64 ((p : Int) + 1)) = W2 := ⟨_, rfl⟩
  rw [hW2] at hS2 hO2 hA2 HB2
  obtain ⟨x1, x2, x3, x4, x5⟩ := hS2.cells
  obtain ⟨y0, y1, y2, y3, _⟩ := hA2.cells
  clear hS1 hO1 hA1 HB
  go_wp2_with fail
  refine (rkind_any _ hbk.out.1 hbk.out.2 _).mono ?_
  rintro e w3 ⟨rfl, hb⟩
  rw [hkd]
  have hA3 := hA2.below hb
  have hS3 := hS2.below hb
  have hO3 := hO2.below hb
  have HB3 := stp HB2 hb
  clear hb hW2 s1 s2 s3 s4 s5 a0 a1 a2 a3 f0 x1 x2 x3 x4 x5 y0 y1 y2 y3 hA2 hS2 hO2 HB2
  obtain ⟨s1, s2, s3, s4, s5⟩ := hS3.cells
  obtain ⟨a0, a1, a2, a3, _⟩ := hA3.cells
  simp only at s1 s2 s3 s4 s5
  have hmk := hS3.mem k hkm
  simp only at hmk
  have g0 := hS3.frozen (1)
  have S0 := hS3.setA (R.at_ s.m k)
  have O0 : St (w3.setCell ⟨w.heap.size + 1, 1, none⟩ (.int .u32 (R.at_ s.m k))) (w.heap.size + 1 + 1) 33 M.s0 := ⟨by rw [Below.heap_setCell _ _ _ _ (show w.heap.size + 1 + 1 ≠ w.heap.size + 1 by omega)]; exact hO3.1, hO3.2⟩
  have H0 := hid (HB3.out.setCell (p := ⟨w.heap.size + 1, 1, none⟩) (by simp) (.int .u32 (R.at_ s.m k)))
  have Q0 := hA3.off (b' := w.heap.size + 1) (j := 1) (v := .int .u32 (R.at_ s.m k)) hne
  obtain ⟨V0, v0⟩ : ∃ V, w3.setCell ⟨w.heap.size + 1, 1, none⟩ (.int .u32 (R.at_ s.m k)) = V := ⟨_, rfl⟩
  rw [v0] at S0 O0 H0 Q0
  obtain ⟨d00, d01, d02, d03, _⟩ := Q0.cells
  obtain ⟨c01, c02, c03, c04, c05⟩ := S0.cells
  simp only at S0 c01 c02 c03 c04 c05
  have hld := S0.load
  have hsz2 := encS_size S0.2
  obtain ⟨W5, hst, hR5, _, _, hB5⟩ := O0.store S0.2
  have HB5 := hid (hB5 w.heap.size w (by omega) H0.out)
  have HR5 := hid hR5
  clear hB5 hR5
  go_wp2
  refine bodyPost_ret (v := .agg (encS (M.stepI (c, t, f, k) r s))) ?_ rfl ⟨rfl, HB5.out⟩
  rw [HF.out]
  refine results_st Try.results13 _ rfl ?_
  have := HR5.out
  rw [← hp] at this
  exact this

set_option maxHeartbeats 3200000 in
set_option maxRecDepth 1000000 in
theorem rs6 (b o n cap p : Nat) (c : Int) (t f k : Nat) (r : List Int) (s : M.S) (hn : n ≤ 65536) (hp : s.pc = p) (hpn : p < n) (ok : M.okI (c, t, f, k)) (hr : R.okR r) (hs : M.okS s) (w : World) (hl : LiesAt w b o p (c, t, f, k)) (hkd : M.kind c = 6) (hkm : k < 16) :
    Calls Try.prog 13 #[.slice (some ⟨b, o, none⟩) n cap, .agg (RB.enc r), .agg (encS s)] w fun e w' => e = .returned (.agg (encS (M.stepI (c, t, f, k) r s))) ∧ Below w.heap.size w w' := by
  have HF : Hid (M.stepI (c, t, f, k) r s = _) := M.st6 hkd
  have hdx : M.rdX c = false := by unfold M.rdX; rw [hkd]; rfl
  have e5 : (k : Int) < 16 := by omega
  obtain ⟨p0, p1, p2, p3⟩ := hl
  simp only at p0 p1 p2 p3
  have i1 : (p : Int) < (n : Int) := by omega
  have hbk := hid ok.1
  have b0 : 0 ≤ c ∧ c < 65536 := ok.1
  have b1 : 0 ≤ (t : Int) ∧ (t : Int) < 256 := ok.2.1
  have b2 : 0 ≤ (f : Int) ∧ (f : Int) < 256 := ok.2.2.1
  have b3 : 0 ≤ (k : Int) ∧ (k : Int) < 4294967296 := ok.2.2.2
  have hX := RB.lcf_eq
  have hz := s0_lit
  obtain ⟨W, hW⟩ : ∃ W, ((w.alloc (.cells (RB.enc r) 25)).alloc (.cells (encS s) 33)).alloc (.cells (encS M.s0) 33) = W := ⟨_, rfl⟩
  have hB0 : Below w.heap.size w W := by rw [← hW]; exact (((Below.refl _ w).alloc (Nat.le_refl _) _).alloc (by simp) _).alloc (by simp; omega) _
  have hS : St W (w.heap.size + 1) 33 s := by
    rw [← hW]
    have := (St.new (w.alloc (.cells (RB.enc r) 25)) 33 s hs.m.1).alloc (.cells (encS M.s0) 33)
    simpa using this
  have hO : St W (w.heap.size + 1 + 1) 33 M.s0 := by
    rw [← hW]
    have := St.new ((w.alloc (.cells (RB.enc r) 25)).alloc (.cells (encS s) 33)) 33 M.s0 rfl
    simpa using this
  obtain ⟨s1, s2, s3, s4, s5⟩ := hS.cells
  rw [hp] at s1
  have hbl : b < w.heap.size := World.block_lt_of_cell? w ⟨b, o + p * 4, none⟩ p0
  have q0 := (hB0.cell (p := ⟨b, o + p * 4, none⟩) hbl).trans p0
  have q1 := (hB0.cell (p := ⟨b, o + p * 4 + 1, none⟩) hbl).trans p1
  have q2 := (hB0.cell (p := ⟨b, o + p * 4 + 2, none⟩) hbl).trans p2
  have q3 := (hB0.cell (p := ⟨b, o + p * 4 + 3, none⟩) hbl).trans p3
  have hA := At.new W c t f k
  have HB := stp (hid hB0) (al W (.cells #[.int .u16 c, .int .u8 t, .int .u8 f, .int .u32 k] 51))
  have hne : W.heap.size ≠ w.heap.size + 1 := by have := hO.lt; omega
  have hne2 : W.heap.size ≠ w.heap.size + 1 + 1 := by have := hO.lt; omega
  clear p0 p1 p2 p3 hbl hB0
  go_enter Try.func13, Try.ntmps13
  go_wp2_with fail
  refine (rrdX_any _ hbk.out.1 hbk.out.2 _).mono ?_
  rintro e w1 ⟨rfl, hb⟩
  have hA1 := hA.below hb
  have hS1 := (hS.alloc _).below hb
  have hO1 := (hO.alloc _).below hb
  replace HB := stp HB hb
  clear hb hA hS hO s1 s2 s3 s4 s5 q0 q1 q2 q3 hW
  obtain ⟨s1, s2, s3, s4, s5⟩ := hS1.cells
  rw [hp] at s1
  obtain ⟨a0, a1, a2, a3, _⟩ := hA1.cells
  have f0 := hS1.frozen 0
  have hS2 := hS1.setPc ((p : Int) + 1)
  have hO2 : St (w1.setCell ⟨w.heap.size + 1, 0, none⟩ (.int .i64 ((p : Int) + 1))) (w.heap.size + 1 + 1) 33 M.s0 := ⟨by rw [Below.heap_setCell _ _ _ _ (show w.heap.size + 1 + 1 ≠ w.heap.size + 1 by omega)]; exact hO1.1, hO1.2⟩
  have hA2 := hA1.off (b' := w.heap.size + 1) (j := 0) (v := .int .i64 ((p : Int) + 1)) hne
  have HB2 := hid (HB.out.setCell (p := ⟨w.heap.size + 1, 0, none⟩) (by simp) (.int .i64 ((p : Int) + 1)))
  obtain ⟨W2, hW2⟩ : ∃ W2, w1.setCell ⟨w.heap.size + 1, 0, none⟩ (.int .i64 ((p : Int) + 1)) = W2 := ⟨_, rfl⟩
  rw [hW2] at hS2 hO2 hA2 HB2
  obtain ⟨x1, x2, x3, x4, x5⟩ := hS2.cells
  obtain ⟨y0, y1, y2, y3, _⟩ := hA2.cells
  clear hS1 hO1 hA1 HB
  go_wp2_with fail
  refine (rkind_any _ hbk.out.1 hbk.out.2 _).mono ?_
  rintro e w3 ⟨rfl, hb⟩
  rw [hkd]
  have hA3 := hA2.below hb
  have hS3 := hS2.below hb
  have hO3 := hO2.below hb
  have HB3 := stp HB2 hb
  clear hb hW2 s1 s2 s3 s4 s5 a0 a1 a2 a3 f0 x1 x2 x3 x4 x5 y0 y1 y2 y3 hA2 hS2 hO2 HB2
  obtain ⟨s1, s2, s3, s4, s5⟩ := hS3.cells
  obtain ⟨a0, a1, a2, a3, _⟩ := hA3.cells
  simp only at s1 s2 s3 s4 s5
  have hmk := hS3.mem k hkm
  simp only at hmk
  have g0 := hS3.frozen (2)
  have S0 := hS3.setX (R.at_ s.m k)
  have O0 : St (w3.setCell ⟨w.heap.size + 1, 2, none⟩ (.int .u32 (R.at_ s.m k))) (w.heap.size + 1 + 1) 33 M.s0 := ⟨by rw [Below.heap_setCell _ _ _ _ (show w.heap.size + 1 + 1 ≠ w.heap.size + 1 by omega)]; exact hO3.1, hO3.2⟩
  have H0 := hid (HB3.out.setCell (p := ⟨w.heap.size + 1, 2, none⟩) (by simp) (.int .u32 (R.at_ s.m k)))
  have Q0 := hA3.off (b' := w.heap.size + 1) (j := 2) (v := .int .u32 (R.at_ s.m k)) hne
  obtain ⟨V0, v0⟩ : ∃ V, w3.setCell ⟨w.heap.size + 1, 2, none⟩ (.int .u32 (R.at_ s.m k)) = V := ⟨_, rfl⟩
  rw [v0] at S0 O0 H0 Q0
  obtain ⟨d00, d01, d02, d03, _⟩ := Q0.cells
  obtain ⟨c01, c02, c03, c04, c05⟩ := S0.cells
  simp only at S0 c01 c02 c03 c04 c05
  have hld := S0.load
  have hsz2 := encS_size S0.2
  obtain ⟨W5, hst, hR5, _, _, hB5⟩ := O0.store S0.2
  have HB5 := hid (hB5 w.heap.size w (by omega) H0.out)
  have HR5 := hid hR5
  clear hB5 hR5
  go_wp2
  refine bodyPost_ret (v := .agg (encS (M.stepI (c, t, f, k) r s))) ?_ rfl ⟨rfl, HB5.out⟩
  rw [HF.out]
  refine results_st Try.results13 _ rfl ?_
  have := HR5.out
  rw [← hp] at this
  exact this

set_option maxHeartbeats 3200000 in
set_option maxRecDepth 1000000 in
theorem rs8 (b o n cap p : Nat) (c : Int) (t f k : Nat) (r : List Int) (s : M.S) (hn : n ≤ 65536) (hp : s.pc = p) (hpn : p < n) (ok : M.okI (c, t, f, k)) (hr : R.okR r) (hs : M.okS s) (w : World) (hl : LiesAt w b o p (c, t, f, k)) (hkd : M.kind c = 8) (hkm : k < 16) :
    Calls Try.prog 13 #[.slice (some ⟨b, o, none⟩) n cap, .agg (RB.enc r), .agg (encS s)] w fun e w' => e = .returned (.agg (encS (M.stepI (c, t, f, k) r s))) ∧ Below w.heap.size w w' := by
  have HF : Hid (M.stepI (c, t, f, k) r s = _) := M.st8 hkd
  have hdx : M.rdX c = false := by unfold M.rdX; rw [hkd]; rfl
  have e5 : (k : Int) < 16 := by omega
  obtain ⟨p0, p1, p2, p3⟩ := hl
  simp only at p0 p1 p2 p3
  have i1 : (p : Int) < (n : Int) := by omega
  have hbk := hid ok.1
  have b0 : 0 ≤ c ∧ c < 65536 := ok.1
  have b1 : 0 ≤ (t : Int) ∧ (t : Int) < 256 := ok.2.1
  have b2 : 0 ≤ (f : Int) ∧ (f : Int) < 256 := ok.2.2.1
  have b3 : 0 ≤ (k : Int) ∧ (k : Int) < 4294967296 := ok.2.2.2
  have hX := RB.lcf_eq
  have hz := s0_lit
  obtain ⟨W, hW⟩ : ∃ W, ((w.alloc (.cells (RB.enc r) 25)).alloc (.cells (encS s) 33)).alloc (.cells (encS M.s0) 33) = W := ⟨_, rfl⟩
  have hB0 : Below w.heap.size w W := by rw [← hW]; exact (((Below.refl _ w).alloc (Nat.le_refl _) _).alloc (by simp) _).alloc (by simp; omega) _
  have hS : St W (w.heap.size + 1) 33 s := by
    rw [← hW]
    have := (St.new (w.alloc (.cells (RB.enc r) 25)) 33 s hs.m.1).alloc (.cells (encS M.s0) 33)
    simpa using this
  have hO : St W (w.heap.size + 1 + 1) 33 M.s0 := by
    rw [← hW]
    have := St.new ((w.alloc (.cells (RB.enc r) 25)).alloc (.cells (encS s) 33)) 33 M.s0 rfl
    simpa using this
  obtain ⟨s1, s2, s3, s4, s5⟩ := hS.cells
  rw [hp] at s1
  have hbl : b < w.heap.size := World.block_lt_of_cell? w ⟨b, o + p * 4, none⟩ p0
  have q0 := (hB0.cell (p := ⟨b, o + p * 4, none⟩) hbl).trans p0
  have q1 := (hB0.cell (p := ⟨b, o + p * 4 + 1, none⟩) hbl).trans p1
  have q2 := (hB0.cell (p := ⟨b, o + p * 4 + 2, none⟩) hbl).trans p2
  have q3 := (hB0.cell (p := ⟨b, o + p * 4 + 3, none⟩) hbl).trans p3
  have hA := At.new W c t f k
  have HB := stp (hid hB0) (al W (.cells #[.int .u16 c, .int .u8 t, .int .u8 f, .int .u32 k] 51))
  have hne : W.heap.size ≠ w.heap.size + 1 := by have := hO.lt; omega
  have hne2 : W.heap.size ≠ w.heap.size + 1 + 1 := by have := hO.lt; omega
  clear p0 p1 p2 p3 hbl hB0
  go_enter Try.func13, Try.ntmps13
  go_wp2_with fail
  refine (rrdX_any _ hbk.out.1 hbk.out.2 _).mono ?_
  rintro e w1 ⟨rfl, hb⟩
  have hA1 := hA.below hb
  have hS1 := (hS.alloc _).below hb
  have hO1 := (hO.alloc _).below hb
  replace HB := stp HB hb
  clear hb hA hS hO s1 s2 s3 s4 s5 q0 q1 q2 q3 hW
  obtain ⟨s1, s2, s3, s4, s5⟩ := hS1.cells
  rw [hp] at s1
  obtain ⟨a0, a1, a2, a3, _⟩ := hA1.cells
  have f0 := hS1.frozen 0
  have hS2 := hS1.setPc ((p : Int) + 1)
  have hO2 : St (w1.setCell ⟨w.heap.size + 1, 0, none⟩ (.int .i64 ((p : Int) + 1))) (w.heap.size + 1 + 1) 33 M.s0 := ⟨by rw [Below.heap_setCell _ _ _ _ (show w.heap.size + 1 + 1 ≠ w.heap.size + 1 by omega)]; exact hO1.1, hO1.2⟩
  have hA2 := hA1.off (b' := w.heap.size + 1) (j := 0) (v := .int .i64 ((p : Int) + 1)) hne
  have HB2 := hid (HB.out.setCell (p := ⟨w.heap.size + 1, 0, none⟩) (by simp) (.int .i64 ((p : Int) + 1)))
  obtain ⟨W2, hW2⟩ : ∃ W2, w1.setCell ⟨w.heap.size + 1, 0, none⟩ (.int .i64 ((p : Int) + 1)) = W2 := ⟨_, rfl⟩
  rw [hW2] at hS2 hO2 hA2 HB2
  obtain ⟨x1, x2, x3, x4, x5⟩ := hS2.cells
  obtain ⟨y0, y1, y2, y3, _⟩ := hA2.cells
  clear hS1 hO1 hA1 HB
  go_wp2_with fail
  refine (rkind_any _ hbk.out.1 hbk.out.2 _).mono ?_
  rintro e w3 ⟨rfl, hb⟩
  rw [hkd]
  have hA3 := hA2.below hb
  have hS3 := hS2.below hb
  have hO3 := hO2.below hb
  have HB3 := stp HB2 hb
  clear hb hW2 s1 s2 s3 s4 s5 a0 a1 a2 a3 f0 x1 x2 x3 x4 x5 y0 y1 y2 y3 hA2 hS2 hO2 HB2
  obtain ⟨s1, s2, s3, s4, s5⟩ := hS3.cells
  obtain ⟨a0, a1, a2, a3, _⟩ := hA3.cells
  simp only at s1 s2 s3 s4 s5
  have hmk := hS3.mem k hkm
  simp only at hmk
  have g0 := hS3.frozen (3 + k)
  have S0 := hS3.setM k hkm s.a
  have O0 : St (w3.setCell ⟨w.heap.size + 1, 3 + k, none⟩ (.int .u32 s.a)) (w.heap.size + 1 + 1) 33 M.s0 := ⟨by rw [Below.heap_setCell _ _ _ _ (show w.heap.size + 1 + 1 ≠ w.heap.size + 1 by omega)]; exact hO3.1, hO3.2⟩
  have H0 := hid (HB3.out.setCell (p := ⟨w.heap.size + 1, 3 + k, none⟩) (by simp) (.int .u32 s.a))
  have Q0 := hA3.off (b' := w.heap.size + 1) (j := 3 + k) (v := .int .u32 s.a) hne
  obtain ⟨V0, v0⟩ : ∃ V, w3.setCell ⟨w.heap.size + 1, 3 + k, none⟩ (.int .u32 s.a) = V := ⟨_, rfl⟩
  rw [v0] at S0 O0 H0 Q0
  obtain ⟨d00, d01, d02, d03, _⟩ := Q0.cells
  obtain ⟨c01, c02, c03, c04, c05⟩ := S0.cells
  simp only at S0 c01 c02 c03 c04 c05
  have hld := S0.load
  have hsz2 := encS_size S0.2
  obtain ⟨W5, hst, hR5, _, _, hB5⟩ := O0.store S0.2
  have HB5 := hid (hB5 w.heap.size w (by omega) H0.out)
  have HR5 := hid hR5
  clear hB5 hR5
  go_wp2
  refine bodyPost_ret (v := .agg (encS (M.stepI (c, t, f, k) r s))) ?_ rfl ⟨rfl, HB5.out⟩
  rw [HF.out]
  refine results_st Try.results13 _ rfl ?_
  have := HR5.out
  rw [← hp] at this
  exact this

set_option maxHeartbeats 3200000 in
set_option maxRecDepth 1000000 in
theorem rs9 (b o n cap p : Nat) (c : Int) (t f k : Nat) (r : List Int) (s : M.S) (hn : n ≤ 65536) (hp : s.pc = p) (hpn : p < n) (ok : M.okI (c, t, f, k)) (hr : R.okR r) (hs : M.okS s) (w : World) (hl : LiesAt w b o p (c, t, f, k)) (hkd : M.kind c = 9) (hkm : k < 16) :
    Calls Try.prog 13 #[.slice (some ⟨b, o, none⟩) n cap, .agg (RB.enc r), .agg (encS s)] w fun e w' => e = .returned (.agg (encS (M.stepI (c, t, f, k) r s))) ∧ Below w.heap.size w w' := by
  have HF : Hid (M.stepI (c, t, f, k) r s = _) := M.st9 hkd
  have hdx : M.rdX c = true := by unfold M.rdX; rw [hkd]; rfl
  have e5 : (k : Int) < 16 := by omega
  obtain ⟨p0, p1, p2, p3⟩ := hl
  simp only at p0 p1 p2 p3
  have i1 : (p : Int) < (n : Int) := by omega
  have hbk := hid ok.1
  have b0 : 0 ≤ c ∧ c < 65536 := ok.1
  have b1 : 0 ≤ (t : Int) ∧ (t : Int) < 256 := ok.2.1
  have b2 : 0 ≤ (f : Int) ∧ (f : Int) < 256 := ok.2.2.1
  have b3 : 0 ≤ (k : Int) ∧ (k : Int) < 4294967296 := ok.2.2.2
  have hX := RB.lcf_eq
  have hz := s0_lit
  obtain ⟨W, hW⟩ : ∃ W, ((w.alloc (.cells (RB.enc r) 25)).alloc (.cells (encS s) 33)).alloc (.cells (encS M.s0) 33) = W := ⟨_, rfl⟩
  have hB0 : Below w.heap.size w W := by rw [← hW]; exact (((Below.refl _ w).alloc (Nat.le_refl _) _).alloc (by simp) _).alloc (by simp; omega) _
  have hS : St W (w.heap.size + 1) 33 s := by
    rw [← hW]
    have := (St.new (w.alloc (.cells (RB.enc r) 25)) 33 s hs.m.1).alloc (.cells (encS M.s0) 33)
    simpa using this
  have hO : St W (w.heap.size + 1 + 1) 33 M.s0 := by
    rw [← hW]
    have := St.new ((w.alloc (.cells (RB.enc r) 25)).alloc (.cells (encS s) 33)) 33 M.s0 rfl
    simpa using this
  obtain ⟨s1, s2, s3, s4, s5⟩ := hS.cells
  rw [hp] at s1
  have hbl : b < w.heap.size := World.block_lt_of_cell? w ⟨b, o + p * 4, none⟩ p0
  have q0 := (hB0.cell (p := ⟨b, o + p * 4, none⟩) hbl).trans p0
  have q1 := (hB0.cell (p := ⟨b, o + p * 4 + 1, none⟩) hbl).trans p1
  have q2 := (hB0.cell (p := ⟨b, o + p * 4 + 2, none⟩) hbl).trans p2
  have q3 := (hB0.cell (p := ⟨b, o + p * 4 + 3, none⟩) hbl).trans p3
  have hA := At.new W c t f k
  have HB := stp (hid hB0) (al W (.cells #[.int .u16 c, .int .u8 t, .int .u8 f, .int .u32 k] 51))
  have hne : W.heap.size ≠ w.heap.size + 1 := by have := hO.lt; omega
  have hne2 : W.heap.size ≠ w.heap.size + 1 + 1 := by have := hO.lt; omega
  clear p0 p1 p2 p3 hbl hB0
  go_enter Try.func13, Try.ntmps13
  go_wp2_with fail
  refine (rrdX_any _ hbk.out.1 hbk.out.2 _).mono ?_
  rintro e w1 ⟨rfl, hb⟩
  have hA1 := hA.below hb
  have hS1 := (hS.alloc _).below hb
  have hO1 := (hO.alloc _).below hb
  replace HB := stp HB hb
  clear hb hA hS hO s1 s2 s3 s4 s5 q0 q1 q2 q3 hW
  obtain ⟨s1, s2, s3, s4, s5⟩ := hS1.cells
  rw [hp] at s1
  obtain ⟨a0, a1, a2, a3, _⟩ := hA1.cells
  have f0 := hS1.frozen 0
  have hS2 := hS1.setPc ((p : Int) + 1)
  have hO2 : St (w1.setCell ⟨w.heap.size + 1, 0, none⟩ (.int .i64 ((p : Int) + 1))) (w.heap.size + 1 + 1) 33 M.s0 := ⟨by rw [Below.heap_setCell _ _ _ _ (show w.heap.size + 1 + 1 ≠ w.heap.size + 1 by omega)]; exact hO1.1, hO1.2⟩
  have hA2 := hA1.off (b' := w.heap.size + 1) (j := 0) (v := .int .i64 ((p : Int) + 1)) hne
  have HB2 := hid (HB.out.setCell (p := ⟨w.heap.size + 1, 0, none⟩) (by simp) (.int .i64 ((p : Int) + 1)))
  obtain ⟨W2, hW2⟩ : ∃ W2, w1.setCell ⟨w.heap.size + 1, 0, none⟩ (.int .i64 ((p : Int) + 1)) = W2 := ⟨_, rfl⟩
  rw [hW2] at hS2 hO2 hA2 HB2
  obtain ⟨x1, x2, x3, x4, x5⟩ := hS2.cells
  obtain ⟨y0, y1, y2, y3, _⟩ := hA2.cells
  clear hS1 hO1 hA1 HB
  go_wp2_with fail
  refine (rkind_any _ hbk.out.1 hbk.out.2 _).mono ?_
  rintro e w3 ⟨rfl, hb⟩
  rw [hkd]
  have hA3 := hA2.below hb
  have hS3 := hS2.below hb
  have hO3 := hO2.below hb
  have HB3 := stp HB2 hb
  clear hb hW2 s1 s2 s3 s4 s5 a0 a1 a2 a3 f0 x1 x2 x3 x4 x5 y0 y1 y2 y3 hA2 hS2 hO2 HB2
  obtain ⟨s1, s2, s3, s4, s5⟩ := hS3.cells
  obtain ⟨a0, a1, a2, a3, _⟩ := hA3.cells
  simp only at s1 s2 s3 s4 s5
  have hmk := hS3.mem k hkm
  simp only at hmk
  have g0 := hS3.frozen (3 + k)
  have S0 := hS3.setM k hkm s.x
  have O0 : St (w3.setCell ⟨w.heap.size + 1, 3 + k, none⟩ (.int .u32 s.x)) (w.heap.size + 1 + 1) 33 M.s0 := ⟨by rw [Below.heap_setCell _ _ _ _ (show w.heap.size + 1 + 1 ≠ w.heap.size + 1 by omega)]; exact hO3.1, hO3.2⟩
  have H0 := hid (HB3.out.setCell (p := ⟨w.heap.size + 1, 3 + k, none⟩) (by simp) (.int .u32 s.x))
  have Q0 := hA3.off (b' := w.heap.size + 1) (j := 3 + k) (v := .int .u32 s.x) hne
  obtain ⟨V0, v0⟩ : ∃ V, w3.setCell ⟨w.heap.size + 1, 3 + k, none⟩ (.int .u32 s.x) = V := ⟨_, rfl⟩
  rw [v0] at S0 O0 H0 Q0
  obtain ⟨d00, d01, d02, d03, _⟩ := Q0.cells
  obtain ⟨c01, c02, c03, c04, c05⟩ := S0.cells
  simp only at S0 c01 c02 c03 c04 c05
  have hld := S0.load
  have hsz2 := encS_size S0.2
  obtain ⟨W5, hst, hR5, _, _, hB5⟩ := O0.store S0.2
  have HB5 := hid (hB5 w.heap.size w (by omega) H0.out)
  have HR5 := hid hR5
  clear hB5 hR5
  go_wp2
  refine bodyPost_ret (v := .agg (encS (M.stepI (c, t, f, k) r s))) ?_ rfl ⟨rfl, HB5.out⟩
  rw [HF.out]
  refine results_st Try.results13 _ rfl ?_
  have := HR5.out
  rw [← hp] at this
  exact this

set_option maxHeartbeats 3200000 in
set_option maxRecDepth 1000000 in
theorem rs11 (b o n cap p : Nat) (c : Int) (t f k : Nat) (r : List Int) (s : M.S) (hn : n ≤ 65536) (hp : s.pc = p) (hpn : p < n) (ok : M.okI (c, t, f, k)) (hr : R.okR r) (hs : M.okS s) (w : World) (hl : LiesAt w b o p (c, t, f, k)) (hkd : M.kind c = 11) (hj : p + 1 + k ≤ 65536) :
    Calls Try.prog 13 #[.slice (some ⟨b, o, none⟩) n cap, .agg (RB.enc r), .agg (encS s)] w fun e w' => e = .returned (.agg (encS (M.stepI (c, t, f, k) r s))) ∧ Below w.heap.size w w' := by
  have HF : Hid (M.stepI (c, t, f, k) r s = _) := M.st11 hkd
  have hdx : M.rdX c = false := by unfold M.rdX; rw [hkd]; rfl
  obtain ⟨p0, p1, p2, p3⟩ := hl
  simp only at p0 p1 p2 p3
  have i1 : (p : Int) < (n : Int) := by omega
  have hbk := hid ok.1
  have b0 : 0 ≤ c ∧ c < 65536 := ok.1
  have b1 : 0 ≤ (t : Int) ∧ (t : Int) < 256 := ok.2.1
  have b2 : 0 ≤ (f : Int) ∧ (f : Int) < 256 := ok.2.2.1
  have b3 : 0 ≤ (k : Int) ∧ (k : Int) < 4294967296 := ok.2.2.2
  have hX := RB.lcf_eq
  have hz := s0_lit
  obtain ⟨W, hW⟩ : ∃ W, ((w.alloc (.cells (RB.enc r) 25)).alloc (.cells (encS s) 33)).alloc (.cells (encS M.s0) 33) = W := ⟨_, rfl⟩
  have hB0 : Below w.heap.size w W := by rw [← hW]; exact (((Below.refl _ w).alloc (Nat.le_refl _) _).alloc (by simp) _).alloc (by simp; omega) _
  have hS : St W (w.heap.size + 1) 33 s := by
    rw [← hW]
    have := (St.new (w.alloc (.cells (RB.enc r) 25)) 33 s hs.m.1).alloc (.cells (encS M.s0) 33)
    simpa using this
  have hO : St W (w.heap.size + 1 + 1) 33 M.s0 := by
    rw [← hW]
    have := St.new ((w.alloc (.cells (RB.enc r) 25)).alloc (.cells (encS s) 33)) 33 M.s0 rfl
    simpa using this
  obtain ⟨s1, s2, s3, s4, s5⟩ := hS.cells
  rw [hp] at s1
  have hbl : b < w.heap.size := World.block_lt_of_cell? w ⟨b, o + p * 4, none⟩ p0
  have q0 := (hB0.cell (p := ⟨b, o + p * 4, none⟩) hbl).trans p0
  have q1 := (hB0.cell (p := ⟨b, o + p * 4 + 1, none⟩) hbl).trans p1
  have q2 := (hB0.cell (p := ⟨b, o + p * 4 + 2, none⟩) hbl).trans p2
  have q3 := (hB0.cell (p := ⟨b, o + p * 4 + 3, none⟩) hbl).trans p3
  have hA := At.new W c t f k
  have HB := stp (hid hB0) (al W (.cells #[.int .u16 c, .int .u8 t, .int .u8 f, .int .u32 k] 51))
  have hne : W.heap.size ≠ w.heap.size + 1 := by have := hO.lt; omega
  have hne2 : W.heap.size ≠ w.heap.size + 1 + 1 := by have := hO.lt; omega
  clear p0 p1 p2 p3 hbl hB0
  go_enter Try.func13, Try.ntmps13
  go_wp2_with fail
  refine (rrdX_any _ hbk.out.1 hbk.out.2 _).mono ?_
  rintro e w1 ⟨rfl, hb⟩
  have hA1 := hA.below hb
  have hS1 := (hS.alloc _).below hb
  have hO1 := (hO.alloc _).below hb
  replace HB := stp HB hb
  clear hb hA hS hO s1 s2 s3 s4 s5 q0 q1 q2 q3 hW
  obtain ⟨s1, s2, s3, s4, s5⟩ := hS1.cells
  rw [hp] at s1
  obtain ⟨a0, a1, a2, a3, _⟩ := hA1.cells
  have f0 := hS1.frozen 0
  have hS2 := hS1.setPc ((p : Int) + 1)
  have hO2 : St (w1.setCell ⟨w.heap.size + 1, 0, none⟩ (.int .i64 ((p : Int) + 1))) (w.heap.size + 1 + 1) 33 M.s0 := ⟨by rw [Below.heap_setCell _ _ _ _ (show w.heap.size + 1 + 1 ≠ w.heap.size + 1 by omega)]; exact hO1.1, hO1.2⟩
  have hA2 := hA1.off (b' := w.heap.size + 1) (j := 0) (v := .int .i64 ((p : Int) + 1)) hne
  have HB2 := hid (HB.out.setCell (p := ⟨w.heap.size + 1, 0, none⟩) (by simp) (.int .i64 ((p : Int) + 1)))
  obtain ⟨W2, hW2⟩ : ∃ W2, w1.setCell ⟨w.heap.size + 1, 0, none⟩ (.int .i64 ((p : Int) + 1)) = W2 := ⟨_, rfl⟩
  rw [hW2] at hS2 hO2 hA2 HB2
  obtain ⟨x1, x2, x3, x4, x5⟩ := hS2.cells
  obtain ⟨y0, y1, y2, y3, _⟩ := hA2.cells
  clear hS1 hO1 hA1 HB
  go_wp2_with fail
  refine (rkind_any _ hbk.out.1 hbk.out.2 _).mono ?_
  rintro e w3 ⟨rfl, hb⟩
  rw [hkd]
  have hA3 := hA2.below hb
  have hS3 := hS2.below hb
  have hO3 := hO2.below hb
  have HB3 := stp HB2 hb
  clear hb hW2 s1 s2 s3 s4 s5 a0 a1 a2 a3 f0 x1 x2 x3 x4 x5 y0 y1 y2 y3 hA2 hS2 hO2 HB2
  obtain ⟨s1, s2, s3, s4, s5⟩ := hS3.cells
  obtain ⟨a0, a1, a2, a3, _⟩ := hA3.cells
  simp only at s1 s2 s3 s4 s5
  have g0 := hS3.frozen (0)
  have S0 := hS3.setPc ((p : Int) + 1 + (k : Int))
  have O0 : St (w3.setCell ⟨w.heap.size + 1, 0, none⟩ (.int .i64 ((p : Int) + 1 + (k : Int)))) (w.heap.size + 1 + 1) 33 M.s0 := ⟨by rw [Below.heap_setCell _ _ _ _ (show w.heap.size + 1 + 1 ≠ w.heap.size + 1 by omega)]; exact hO3.1, hO3.2⟩
  have H0 := hid (HB3.out.setCell (p := ⟨w.heap.size + 1, 0, none⟩) (by simp) (.int .i64 ((p : Int) + 1 + (k : Int))))
  have Q0 := hA3.off (b' := w.heap.size + 1) (j := 0) (v := .int .i64 ((p : Int) + 1 + (k : Int))) hne
  obtain ⟨V0, v0⟩ : ∃ V, w3.setCell ⟨w.heap.size + 1, 0, none⟩ (.int .i64 ((p : Int) + 1 + (k : Int))) = V := ⟨_, rfl⟩
  rw [v0] at S0 O0 H0 Q0
  obtain ⟨d00, d01, d02, d03, _⟩ := Q0.cells
  obtain ⟨c01, c02, c03, c04, c05⟩ := S0.cells
  simp only at S0 c01 c02 c03 c04 c05
  have hld := S0.load
  have hsz2 := encS_size S0.2
  obtain ⟨W5, hst, hR5, _, _, hB5⟩ := O0.store S0.2
  have HB5 := hid (hB5 w.heap.size w (by omega) H0.out)
  have HR5 := hid hR5
  clear hB5 hR5
  go_wp2
  refine bodyPost_ret (v := .agg (encS (M.stepI (c, t, f, k) r s))) ?_ rfl ⟨rfl, HB5.out⟩
  rw [HF.out]
  refine results_st Try.results13 _ rfl ?_
  have := HR5.out
  rw [← hp] at this
  exact this

set_option maxHeartbeats 3200000 in
set_option maxRecDepth 1000000 in
theorem rs13 (b o n cap p : Nat) (c : Int) (t f k : Nat) (r : List Int) (s : M.S) (hn : n ≤ 65536) (hp : s.pc = p) (hpn : p < n) (ok : M.okI (c, t, f, k)) (hr : R.okR r) (hs : M.okS s) (w : World) (hl : LiesAt w b o p (c, t, f, k)) (hkd : M.kind c = 13) :
    Calls Try.prog 13 #[.slice (some ⟨b, o, none⟩) n cap, .agg (RB.enc r), .agg (encS s)] w fun e w' => e = .returned (.agg (encS (M.stepI (c, t, f, k) r s))) ∧ Below w.heap.size w w' := by
  have HF : Hid (M.stepI (c, t, f, k) r s = _) := M.st13 hkd
  have hdx : M.rdX c = false := by unfold M.rdX; rw [hkd]; rfl
  obtain ⟨p0, p1, p2, p3⟩ := hl
  simp only at p0 p1 p2 p3
  have i1 : (p : Int) < (n : Int) := by omega
  have hbk := hid ok.1
  have b0 : 0 ≤ c ∧ c < 65536 := ok.1
  have b1 : 0 ≤ (t : Int) ∧ (t : Int) < 256 := ok.2.1
  have b2 : 0 ≤ (f : Int) ∧ (f : Int) < 256 := ok.2.2.1
  have b3 : 0 ≤ (k : Int) ∧ (k : Int) < 4294967296 := ok.2.2.2
  have hX := RB.lcf_eq
  have hz := s0_lit
  obtain ⟨W, hW⟩ : ∃ W, ((w.alloc (.cells (RB.enc r) 25)).alloc (.cells (encS s) 33)).alloc (.cells (encS M.s0) 33) = W := ⟨_, rfl⟩
  have hB0 : Below w.heap.size w W := by rw [← hW]; exact (((Below.refl _ w).alloc (Nat.le_refl _) _).alloc (by simp) _).alloc (by simp; omega) _
  have hS : St W (w.heap.size + 1) 33 s := by
    rw [← hW]
    have := (St.new (w.alloc (.cells (RB.enc r) 25)) 33 s hs.m.1).alloc (.cells (encS M.s0) 33)
    simpa using this
  have hO : St W (w.heap.size + 1 + 1) 33 M.s0 := by
    rw [← hW]
    have := St.new ((w.alloc (.cells (RB.enc r) 25)).alloc (.cells (encS s) 33)) 33 M.s0 rfl
    simpa using this
  obtain ⟨s1, s2, s3, s4, s5⟩ := hS.cells
  rw [hp] at s1
  have hbl : b < w.heap.size := World.block_lt_of_cell? w ⟨b, o + p * 4, none⟩ p0
  have q0 := (hB0.cell (p := ⟨b, o + p * 4, none⟩) hbl).trans p0
  have q1 := (hB0.cell (p := ⟨b, o + p * 4 + 1, none⟩) hbl).trans p1
  have q2 := (hB0.cell (p := ⟨b, o + p * 4 + 2, none⟩) hbl).trans p2
  have q3 := (hB0.cell (p := ⟨b, o + p * 4 + 3, none⟩) hbl).trans p3
  have hA := At.new W c t f k
  have HB := stp (hid hB0) (al W (.cells #[.int .u16 c, .int .u8 t, .int .u8 f, .int .u32 k] 51))
  have hne : W.heap.size ≠ w.heap.size + 1 := by have := hO.lt; omega
  have hne2 : W.heap.size ≠ w.heap.size + 1 + 1 := by have := hO.lt; omega
  clear p0 p1 p2 p3 hbl hB0
  go_enter Try.func13, Try.ntmps13
  go_wp2_with fail
  refine (rrdX_any _ hbk.out.1 hbk.out.2 _).mono ?_
  rintro e w1 ⟨rfl, hb⟩
  have hA1 := hA.below hb
  have hS1 := (hS.alloc _).below hb
  have hO1 := (hO.alloc _).below hb
  replace HB := stp HB hb
  clear hb hA hS hO s1 s2 s3 s4 s5 q0 q1 q2 q3 hW
  obtain ⟨s1, s2, s3, s4, s5⟩ := hS1.cells
  rw [hp] at s1
  obtain ⟨a0, a1, a2, a3, _⟩ := hA1.cells
  have f0 := hS1.frozen 0
  have hS2 := hS1.setPc ((p : Int) + 1)
  have hO2 : St (w1.setCell ⟨w.heap.size + 1, 0, none⟩ (.int .i64 ((p : Int) + 1))) (w.heap.size + 1 + 1) 33 M.s0 := ⟨by rw [Below.heap_setCell _ _ _ _ (show w.heap.size + 1 + 1 ≠ w.heap.size + 1 by omega)]; exact hO1.1, hO1.2⟩
  have hA2 := hA1.off (b' := w.heap.size + 1) (j := 0) (v := .int .i64 ((p : Int) + 1)) hne
  have HB2 := hid (HB.out.setCell (p := ⟨w.heap.size + 1, 0, none⟩) (by simp) (.int .i64 ((p : Int) + 1)))
  obtain ⟨W2, hW2⟩ : ∃ W2, w1.setCell ⟨w.heap.size + 1, 0, none⟩ (.int .i64 ((p : Int) + 1)) = W2 := ⟨_, rfl⟩
  rw [hW2] at hS2 hO2 hA2 HB2
  obtain ⟨x1, x2, x3, x4, x5⟩ := hS2.cells
  obtain ⟨y0, y1, y2, y3, _⟩ := hA2.cells
  clear hS1 hO1 hA1 HB
  go_wp2_with fail
  refine (rkind_any _ hbk.out.1 hbk.out.2 _).mono ?_
  rintro e w3 ⟨rfl, hb⟩
  rw [hkd]
  have hA3 := hA2.below hb
  have hS3 := hS2.below hb
  have hO3 := hO2.below hb
  have HB3 := stp HB2 hb
  clear hb hW2 s1 s2 s3 s4 s5 a0 a1 a2 a3 f0 x1 x2 x3 x4 x5 y0 y1 y2 y3 hA2 hS2 hO2 HB2
  obtain ⟨s1, s2, s3, s4, s5⟩ := hS3.cells
  obtain ⟨a0, a1, a2, a3, _⟩ := hA3.cells
  simp only at s1 s2 s3 s4 s5
  have g0 := hS3.frozen (0)
  have S0 := hS3.setPc (p : Int)
  have O0 : St (w3.setCell ⟨w.heap.size + 1, 0, none⟩ (.int .i64 (p : Int))) (w.heap.size + 1 + 1) 33 M.s0 := ⟨by rw [Below.heap_setCell _ _ _ _ (show w.heap.size + 1 + 1 ≠ w.heap.size + 1 by omega)]; exact hO3.1, hO3.2⟩
  have H0 := hid (HB3.out.setCell (p := ⟨w.heap.size + 1, 0, none⟩) (by simp) (.int .i64 (p : Int)))
  have Q0 := hA3.off (b' := w.heap.size + 1) (j := 0) (v := .int .i64 (p : Int)) hne
  obtain ⟨V0, v0⟩ : ∃ V, w3.setCell ⟨w.heap.size + 1, 0, none⟩ (.int .i64 (p : Int)) = V := ⟨_, rfl⟩
  rw [v0] at S0 O0 H0 Q0
  obtain ⟨d00, d01, d02, d03, _⟩ := Q0.cells
  obtain ⟨c01, c02, c03, c04, c05⟩ := S0.cells
  simp only at S0 c01 c02 c03 c04 c05
  have g1 := S0.frozen (19)
  have S1 := S0.setEn true
  have O1 : St (V0.setCell ⟨w.heap.size + 1, 19, none⟩ (.bool true)) (w.heap.size + 1 + 1) 33 M.s0 := ⟨by rw [Below.heap_setCell _ _ _ _ (show w.heap.size + 1 + 1 ≠ w.heap.size + 1 by omega)]; exact O0.1, O0.2⟩
  have H1 := hid (H0.out.setCell (p := ⟨w.heap.size + 1, 19, none⟩) (by simp) (.bool true))
  have Q1 := Q0.off (b' := w.heap.size + 1) (j := 19) (v := .bool true) hne
  obtain ⟨V1, v1⟩ : ∃ V, V0.setCell ⟨w.heap.size + 1, 19, none⟩ (.bool true) = V := ⟨_, rfl⟩
  rw [v1] at S1 O1 H1 Q1
  obtain ⟨d10, d11, d12, d13, _⟩ := Q1.cells
  obtain ⟨c11, c12, c13, c14, c15⟩ := S1.cells
  simp only at S1 c11 c12 c13 c14 c15
  have g2 := S1.frozen (20)
  have S2 := S1.setAn k
  have O2 : St (V1.setCell ⟨w.heap.size + 1, 20, none⟩ (.int .u32 (k : Int))) (w.heap.size + 1 + 1) 33 M.s0 := ⟨by rw [Below.heap_setCell _ _ _ _ (show w.heap.size + 1 + 1 ≠ w.heap.size + 1 by omega)]; exact O1.1, O1.2⟩
  have H2 := hid (H1.out.setCell (p := ⟨w.heap.size + 1, 20, none⟩) (by simp) (.int .u32 (k : Int)))
  have Q2 := Q1.off (b' := w.heap.size + 1) (j := 20) (v := .int .u32 (k : Int)) hne
  obtain ⟨V2, v2⟩ : ∃ V, V1.setCell ⟨w.heap.size + 1, 20, none⟩ (.int .u32 (k : Int)) = V := ⟨_, rfl⟩
  rw [v2] at S2 O2 H2 Q2
  obtain ⟨d20, d21, d22, d23, _⟩ := Q2.cells
  obtain ⟨c21, c22, c23, c24, c25⟩ := S2.cells
  simp only at S2 c21 c22 c23 c24 c25
  have hld := S2.load
  have hsz2 := encS_size S2.2
  obtain ⟨W5, hst, hR5, _, _, hB5⟩ := O2.store S2.2
  have HB5 := hid (hB5 w.heap.size w (by omega) H2.out)
  have HR5 := hid hR5
  clear hB5 hR5
  go_wp2
  refine bodyPost_ret (v := .agg (encS (M.stepI (c, t, f, k) r s))) ?_ rfl ⟨rfl, HB5.out⟩
  rw [HF.out]
  refine results_st Try.results13 _ rfl ?_
  have := HR5.out
  rw [← hp] at this
  exact this

set_option maxHeartbeats 3200000 in
set_option maxRecDepth 1000000 in
theorem rs14 (b o n cap p : Nat) (c : Int) (t f k : Nat) (r : List Int) (s : M.S) (hn : n ≤ 65536) (hp : s.pc = p) (hpn : p < n) (ok : M.okI (c, t, f, k)) (hr : R.okR r) (hs : M.okS s) (w : World) (hl : LiesAt w b o p (c, t, f, k)) (hkd : M.kind c = 14) :
    Calls Try.prog 13 #[.slice (some ⟨b, o, none⟩) n cap, .agg (RB.enc r), .agg (encS s)] w fun e w' => e = .returned (.agg (encS (M.stepI (c, t, f, k) r s))) ∧ Below w.heap.size w w' := by
  have HF : Hid (M.stepI (c, t, f, k) r s = _) := M.st14 hkd
  have hdx : M.rdX c = false := by unfold M.rdX; rw [hkd]; rfl
  obtain ⟨p0, p1, p2, p3⟩ := hl
  simp only at p0 p1 p2 p3
  have i1 : (p : Int) < (n : Int) := by omega
  have hbk := hid ok.1
  have b0 : 0 ≤ c ∧ c < 65536 := ok.1
  have b1 : 0 ≤ (t : Int) ∧ (t : Int) < 256 := ok.2.1
  have b2 : 0 ≤ (f : Int) ∧ (f : Int) < 256 := ok.2.2.1
  have b3 : 0 ≤ (k : Int) ∧ (k : Int) < 4294967296 := ok.2.2.2
  have hX := RB.lcf_eq
  have hz := s0_lit
  obtain ⟨W, hW⟩ : ∃ W, ((w.alloc (.cells (RB.enc r) 25)).alloc (.cells (encS s) 33)).alloc (.cells (encS M.s0) 33) = W := ⟨_, rfl⟩
  have hB0 : Below w.heap.size w W := by rw [← hW]; exact (((Below.refl _ w).alloc (Nat.le_refl _) _).alloc (by simp) _).alloc (by simp; omega) _
  have hS : St W (w.heap.size + 1) 33 s := by
    rw [← hW]
    have := (St.new (w.alloc (.cells (RB.enc r) 25)) 33 s hs.m.1).alloc (.cells (encS M.s0) 33)
    simpa using this
  have hO : St W (w.heap.size + 1 + 1) 33 M.s0 := by
    rw [← hW]
    have := St.new ((w.alloc (.cells (RB.enc r) 25)).alloc (.cells (encS s) 33)) 33 M.s0 rfl
    simpa using this
  obtain ⟨s1, s2, s3, s4, s5⟩ := hS.cells
  rw [hp] at s1
  have hbl : b < w.heap.size := World.block_lt_of_cell? w ⟨b, o + p * 4, none⟩ p0
  have q0 := (hB0.cell (p := ⟨b, o + p * 4, none⟩) hbl).trans p0
  have q1 := (hB0.cell (p := ⟨b, o + p * 4 + 1, none⟩) hbl).trans p1
  have q2 := (hB0.cell (p := ⟨b, o + p * 4 + 2, none⟩) hbl).trans p2
  have q3 := (hB0.cell (p := ⟨b, o + p * 4 + 3, none⟩) hbl).trans p3
  have hA := At.new W c t f k
  have HB := stp (hid hB0) (al W (.cells #[.int .u16 c, .int .u8 t, .int .u8 f, .int .u32 k] 51))
  have hne : W.heap.size ≠ w.heap.size + 1 := by have := hO.lt; omega
  have hne2 : W.heap.size ≠ w.heap.size + 1 + 1 := by have := hO.lt; omega
  clear p0 p1 p2 p3 hbl hB0
  go_enter Try.func13, Try.ntmps13
  go_wp2_with fail
  refine (rrdX_any _ hbk.out.1 hbk.out.2 _).mono ?_
  rintro e w1 ⟨rfl, hb⟩
  have hA1 := hA.below hb
  have hS1 := (hS.alloc _).below hb
  have hO1 := (hO.alloc _).below hb
  replace HB := stp HB hb
  clear hb hA hS hO s1 s2 s3 s4 s5 q0 q1 q2 q3 hW
  obtain ⟨s1, s2, s3, s4, s5⟩ := hS1.cells
  rw [hp] at s1
  obtain ⟨a0, a1, a2, a3, _⟩ := hA1.cells
  have f0 := hS1.frozen 0
  have hS2 := hS1.setPc ((p : Int) + 1)
  have hO2 : St (w1.setCell ⟨w.heap.size + 1, 0, none⟩ (.int .i64 ((p : Int) + 1))) (w.heap.size + 1 + 1) 33 M.s0 := ⟨by rw [Below.heap_setCell _ _ _ _ (show w.heap.size + 1 + 1 ≠ w.heap.size + 1 by omega)]; exact hO1.1, hO1.2⟩
  have hA2 := hA1.off (b' := w.heap.size + 1) (j := 0) (v := .int .i64 ((p : Int) + 1)) hne
  have HB2 := hid (HB.out.setCell (p := ⟨w.heap.size + 1, 0, none⟩) (by simp) (.int .i64 ((p : Int) + 1)))
  obtain ⟨W2, hW2⟩ : ∃ W2, w1.setCell ⟨w.heap.size + 1, 0, none⟩ (.int .i64 ((p : Int) + 1)) = W2 := ⟨_, rfl⟩
  rw [hW2] at hS2 hO2 hA2 HB2
  obtain ⟨x1, x2, x3, x4, x5⟩ := hS2.cells
  obtain ⟨y0, y1, y2, y3, _⟩ := hA2.cells
  clear hS1 hO1 hA1 HB
  go_wp2_with fail
  refine (rkind_any _ hbk.out.1 hbk.out.2 _).mono ?_
  rintro e w3 ⟨rfl, hb⟩
  rw [hkd]
  have hA3 := hA2.below hb
  have hS3 := hS2.below hb
  have hO3 := hO2.below hb
  have HB3 := stp HB2 hb
  clear hb hW2 s1 s2 s3 s4 s5 a0 a1 a2 a3 f0 x1 x2 x3 x4 x5 y0 y1 y2 y3 hA2 hS2 hO2 HB2
  obtain ⟨s1, s2, s3, s4, s5⟩ := hS3.cells
  obtain ⟨a0, a1, a2, a3, _⟩ := hA3.cells
  simp only at s1 s2 s3 s4 s5
  have g0 := hS3.frozen (0)
  have S0 := hS3.setPc (p : Int)
  have O0 : St (w3.setCell ⟨w.heap.size + 1, 0, none⟩ (.int .i64 (p : Int))) (w.heap.size + 1 + 1) 33 M.s0 := ⟨by rw [Below.heap_setCell _ _ _ _ (show w.heap.size + 1 + 1 ≠ w.heap.size + 1 by omega)]; exact hO3.1, hO3.2⟩
  have H0 := hid (HB3.out.setCell (p := ⟨w.heap.size + 1, 0, none⟩) (by simp) (.int .i64 (p : Int)))
  have Q0 := hA3.off (b' := w.heap.size + 1) (j := 0) (v := .int .i64 (p : Int)) hne
  obtain ⟨V0, v0⟩ : ∃ V, w3.setCell ⟨w.heap.size + 1, 0, none⟩ (.int .i64 (p : Int)) = V := ⟨_, rfl⟩
  rw [v0] at S0 O0 H0 Q0
  obtain ⟨d00, d01, d02, d03, _⟩ := Q0.cells
  obtain ⟨c01, c02, c03, c04, c05⟩ := S0.cells
  simp only at S0 c01 c02 c03 c04 c05
  have g1 := S0.frozen (19)
  have S1 := S0.setEn true
  have O1 : St (V0.setCell ⟨w.heap.size + 1, 19, none⟩ (.bool true)) (w.heap.size + 1 + 1) 33 M.s0 := ⟨by rw [Below.heap_setCell _ _ _ _ (show w.heap.size + 1 + 1 ≠ w.heap.size + 1 by omega)]; exact O0.1, O0.2⟩
  have H1 := hid (H0.out.setCell (p := ⟨w.heap.size + 1, 19, none⟩) (by simp) (.bool true))
  have Q1 := Q0.off (b' := w.heap.size + 1) (j := 19) (v := .bool true) hne
  obtain ⟨V1, v1⟩ : ∃ V, V0.setCell ⟨w.heap.size + 1, 19, none⟩ (.bool true) = V := ⟨_, rfl⟩
  rw [v1] at S1 O1 H1 Q1
  obtain ⟨d10, d11, d12, d13, _⟩ := Q1.cells
  obtain ⟨c11, c12, c13, c14, c15⟩ := S1.cells
  simp only at S1 c11 c12 c13 c14 c15
  have g2 := S1.frozen (20)
  have S2 := S1.setAn s.a
  have O2 : St (V1.setCell ⟨w.heap.size + 1, 20, none⟩ (.int .u32 s.a)) (w.heap.size + 1 + 1) 33 M.s0 := ⟨by rw [Below.heap_setCell _ _ _ _ (show w.heap.size + 1 + 1 ≠ w.heap.size + 1 by omega)]; exact O1.1, O1.2⟩
  have H2 := hid (H1.out.setCell (p := ⟨w.heap.size + 1, 20, none⟩) (by simp) (.int .u32 s.a))
  have Q2 := Q1.off (b' := w.heap.size + 1) (j := 20) (v := .int .u32 s.a) hne
  obtain ⟨V2, v2⟩ : ∃ V, V1.setCell ⟨w.heap.size + 1, 20, none⟩ (.int .u32 s.a) = V := ⟨_, rfl⟩
  rw [v2] at S2 O2 H2 Q2
  obtain ⟨d20, d21, d22, d23, _⟩ := Q2.cells
  obtain ⟨c21, c22, c23, c24, c25⟩ := S2.cells
  simp only at S2 c21 c22 c23 c24 c25
  have hld := S2.load
  have hsz2 := encS_size S2.2
  obtain ⟨W5, hst, hR5, _, _, hB5⟩ := O2.store S2.2
  have HB5 := hid (hB5 w.heap.size w (by omega) H2.out)
  have HR5 := hid hR5
  clear hB5 hR5
  go_wp2
  refine bodyPost_ret (v := .agg (encS (M.stepI (c, t, f, k) r s))) ?_ rfl ⟨rfl, HB5.out⟩
  rw [HF.out]
  refine results_st Try.results13 _ rfl ?_
  have := HR5.out
  rw [← hp] at this
  exact this

set_option maxHeartbeats 3200000 in
set_option maxRecDepth 1000000 in
theorem rs10 (b o n cap p : Nat) (c : Int) (t f k : Nat) (r : List Int) (s : M.S) (hn : n ≤ 65536) (hp : s.pc = p) (hpn : p < n) (ok : M.okI (c, t, f, k)) (hr : R.okR r) (hs : M.okS s) (w : World) (hl : LiesAt w b o p (c, t, f, k)) (hkd : M.kind c = 10) (hbx : ¬ c / 8 % 2 = 1) (hok : WM.ok (c / 16 % 16 * 16) (k : Int) = true) :
    Calls Try.prog 13 #[.slice (some ⟨b, o, none⟩) n cap, .agg (RB.enc r), .agg (encS s)] w fun e w' => e = .returned (.agg (encS (M.stepI (c, t, f, k) r s))) ∧ Below w.heap.size w w' := by
  have hoth : M.oth (c, t, f, k) s = (k : Int) := by unfold M.oth; simp [hbx]
  have HF : Hid (M.stepI (c, t, f, k) r s = _) := (by rw [M.st10 hkd, hoth]; exact if_pos hok)
  have hdx : M.rdX c = false := by unfold M.rdX; rw [hkd]; simp [hbx]
  obtain ⟨p0, p1, p2, p3⟩ := hl
  simp only at p0 p1 p2 p3
  have i1 : (p : Int) < (n : Int) := by omega
  have hbk := hid ok.1
  have b0 : 0 ≤ c ∧ c < 65536 := ok.1
  have b1 : 0 ≤ (t : Int) ∧ (t : Int) < 256 := ok.2.1
  have b2 : 0 ≤ (f : Int) ∧ (f : Int) < 256 := ok.2.2.1
  have b3 : 0 ≤ (k : Int) ∧ (k : Int) < 4294967296 := ok.2.2.2
  have hX := RB.lcf_eq
  have hz := s0_lit
  obtain ⟨W, hW⟩ : ∃ W, ((w.alloc (.cells (RB.enc r) 25)).alloc (.cells (encS s) 33)).alloc (.cells (encS M.s0) 33) = W := ⟨_, rfl⟩
  have hB0 : Below w.heap.size w W := by rw [← hW]; exact (((Below.refl _ w).alloc (Nat.le_refl _) _).alloc (by simp) _).alloc (by simp; omega) _
  have hS : St W (w.heap.size + 1) 33 s := by
    rw [← hW]
    have := (St.new (w.alloc (.cells (RB.enc r) 25)) 33 s hs.m.1).alloc (.cells (encS M.s0) 33)
    simpa using this
  have hO : St W (w.heap.size + 1 + 1) 33 M.s0 := by
    rw [← hW]
    have := St.new ((w.alloc (.cells (RB.enc r) 25)).alloc (.cells (encS s) 33)) 33 M.s0 rfl
    simpa using this
  obtain ⟨s1, s2, s3, s4, s5⟩ := hS.cells
  rw [hp] at s1
  have hbl : b < w.heap.size := World.block_lt_of_cell? w ⟨b, o + p * 4, none⟩ p0
  have q0 := (hB0.cell (p := ⟨b, o + p * 4, none⟩) hbl).trans p0
  have q1 := (hB0.cell (p := ⟨b, o + p * 4 + 1, none⟩) hbl).trans p1
  have q2 := (hB0.cell (p := ⟨b, o + p * 4 + 2, none⟩) hbl).trans p2
  have q3 := (hB0.cell (p := ⟨b, o + p * 4 + 3, none⟩) hbl).trans p3
  have hA := At.new W c t f k
  have HB := stp (hid hB0) (al W (.cells #[.int .u16 c, .int .u8 t, .int .u8 f, .int .u32 k] 51))
  have hne : W.heap.size ≠ w.heap.size + 1 := by have := hO.lt; omega
  have hne2 : W.heap.size ≠ w.heap.size + 1 + 1 := by have := hO.lt; omega
  clear p0 p1 p2 p3 hbl hB0
  go_enter Try.func13, Try.ntmps13
  go_wp2_with fail
  refine (rrdX_any _ hbk.out.1 hbk.out.2 _).mono ?_
  rintro e w1 ⟨rfl, hb⟩
  have hA1 := hA.below hb
  have hS1 := (hS.alloc _).below hb
  have hO1 := (hO.alloc _).below hb
  replace HB := stp HB hb
  clear hb hA hS hO s1 s2 s3 s4 s5 q0 q1 q2 q3 hW
  obtain ⟨s1, s2, s3, s4, s5⟩ := hS1.cells
  rw [hp] at s1
  obtain ⟨a0, a1, a2, a3, _⟩ := hA1.cells
  have f0 := hS1.frozen 0
  have hS2 := hS1.setPc ((p : Int) + 1)
  have hO2 : St (w1.setCell ⟨w.heap.size + 1, 0, none⟩ (.int .i64 ((p : Int) + 1))) (w.heap.size + 1 + 1) 33 M.s0 := ⟨by rw [Below.heap_setCell _ _ _ _ (show w.heap.size + 1 + 1 ≠ w.heap.size + 1 by omega)]; exact hO1.1, hO1.2⟩
  have hA2 := hA1.off (b' := w.heap.size + 1) (j := 0) (v := .int .i64 ((p : Int) + 1)) hne
  have HB2 := hid (HB.out.setCell (p := ⟨w.heap.size + 1, 0, none⟩) (by simp) (.int .i64 ((p : Int) + 1)))
  obtain ⟨W2, hW2⟩ : ∃ W2, w1.setCell ⟨w.heap.size + 1, 0, none⟩ (.int .i64 ((p : Int) + 1)) = W2 := ⟨_, rfl⟩
  rw [hW2] at hS2 hO2 hA2 HB2
  obtain ⟨x1, x2, x3, x4, x5⟩ := hS2.cells
  obtain ⟨y0, y1, y2, y3, _⟩ := hA2.cells
  clear hS1 hO1 hA1 HB
  go_wp2_with fail
  refine (rkind_any _ hbk.out.1 hbk.out.2 _).mono ?_
  rintro e w3 ⟨rfl, hb⟩
  rw [hkd]
  have hA3 := hA2.below hb
  have hS3 := hS2.below hb
  have hO3 := hO2.below hb
  have HB3 := stp HB2 hb
  clear hb hW2 s1 s2 s3 s4 s5 a0 a1 a2 a3 f0 x1 x2 x3 x4 x5 y0 y1 y2 y3 hA2 hS2 hO2 HB2
  obtain ⟨s1, s2, s3, s4, s5⟩ := hS3.cells
  obtain ⟨a0, a1, a2, a3, _⟩ := hA3.cells
  simp only at s1 s2 s3 s4 s5
  go_wp2_with fail
  refine (WB.ralu_any (c / 16 % 16 * 16) s.a (k : Int) hs.a.1 hs.a.2 ok.2.2.2.1 ok.2.2.2.2 _).mono ?_
  rintro e w4 ⟨rfl, hb⟩
  have hA4 := hA3.below hb
  have hS4 := hS3.below hb
  have hO4 := hO3.below hb
  have HB4 := stp HB3 hb
  clear hb s1 s2 s3 s4 s5 a0 a1 a2 a3 hA3 hS3 hO3 HB3
  obtain ⟨s1, s2, s3, s4, s5⟩ := hS4.cells
  obtain ⟨a0, a1, a2, a3, _⟩ := hA4.cells
  simp only at s1 s2 s3 s4 s5
  have g0 := hS4.frozen (1)
  have S0 := hS4.setA (WM.val (c / 16 % 16 * 16) s.a (k : Int))
  have O0 : St (w4.setCell ⟨w.heap.size + 1, 1, none⟩ (.int .u32 (WM.val (c / 16 % 16 * 16) s.a (k : Int)))) (w.heap.size + 1 + 1) 33 M.s0 := ⟨by rw [Below.heap_setCell _ _ _ _ (show w.heap.size + 1 + 1 ≠ w.heap.size + 1 by omega)]; exact hO4.1, hO4.2⟩
  have H0 := hid (HB4.out.setCell (p := ⟨w.heap.size + 1, 1, none⟩) (by simp) (.int .u32 (WM.val (c / 16 % 16 * 16) s.a (k : Int))))
  have Q0 := hA4.off (b' := w.heap.size + 1) (j := 1) (v := .int .u32 (WM.val (c / 16 % 16 * 16) s.a (k : Int))) hne
  obtain ⟨V0, v0⟩ : ∃ V, w4.setCell ⟨w.heap.size + 1, 1, none⟩ (.int .u32 (WM.val (c / 16 % 16 * 16) s.a (k : Int))) = V := ⟨_, rfl⟩
  rw [v0] at S0 O0 H0 Q0
  obtain ⟨d00, d01, d02, d03, _⟩ := Q0.cells
  obtain ⟨c01, c02, c03, c04, c05⟩ := S0.cells
  simp only at S0 c01 c02 c03 c04 c05
  have hld := S0.load
  have hsz2 := encS_size S0.2
  obtain ⟨W5, hst, hR5, _, _, hB5⟩ := O0.store S0.2
  have HB5 := hid (hB5 w.heap.size w (by omega) H0.out)
  have HR5 := hid hR5
  clear hB5 hR5
  go_wp2
  refine bodyPost_ret (v := .agg (encS (M.stepI (c, t, f, k) r s))) ?_ rfl ⟨rfl, HB5.out⟩
  rw [HF.out]
  refine results_st Try.results13 _ rfl ?_
  have := HR5.out
  rw [← hp] at this
  exact this

set_option maxHeartbeats 3200000 in
set_option maxRecDepth 1000000 in
theorem rs10z (b o n cap p : Nat) (c : Int) (t f k : Nat) (r : List Int) (s : M.S) (hn : n ≤ 65536) (hp : s.pc = p) (hpn : p < n) (ok : M.okI (c, t, f, k)) (hr : R.okR r) (hs : M.okS s) (w : World) (hl : LiesAt w b o p (c, t, f, k)) (hkd : M.kind c = 10) (hbx : ¬ c / 8 % 2 = 1) (hok : WM.ok (c / 16 % 16 * 16) (k : Int) = false) :
    Calls Try.prog 13 #[.slice (some ⟨b, o, none⟩) n cap, .agg (RB.enc r), .agg (encS s)] w fun e w' => e = .returned (.agg (encS (M.stepI (c, t, f, k) r s))) ∧ Below w.heap.size w w' := by
  have hoth : M.oth (c, t, f, k) s = (k : Int) := by unfold M.oth; simp [hbx]
  have HF : Hid (M.stepI (c, t, f, k) r s = _) := (by rw [M.st10 hkd, hoth]; exact if_neg (by unfold M.opI; simp only; rw [hok]; simp))
  have hdx : M.rdX c = false := by unfold M.rdX; rw [hkd]; simp [hbx]
  obtain ⟨p0, p1, p2, p3⟩ := hl
  simp only at p0 p1 p2 p3
  have i1 : (p : Int) < (n : Int) := by omega
  have hbk := hid ok.1
  have b0 : 0 ≤ c ∧ c < 65536 := ok.1
  have b1 : 0 ≤ (t : Int) ∧ (t : Int) < 256 := ok.2.1
  have b2 : 0 ≤ (f : Int) ∧ (f : Int) < 256 := ok.2.2.1
  have b3 : 0 ≤ (k : Int) ∧ (k : Int) < 4294967296 := ok.2.2.2
  have hX := RB.lcf_eq
  have hz := s0_lit
  obtain ⟨W, hW⟩ : ∃ W, ((w.alloc (.cells (RB.enc r) 25)).alloc (.cells (encS s) 33)).alloc (.cells (encS M.s0) 33) = W := ⟨_, rfl⟩
  have hB0 : Below w.heap.size w W := by rw [← hW]; exact (((Below.refl _ w).alloc (Nat.le_refl _) _).alloc (by simp) _).alloc (by simp; omega) _
  have hS : St W (w.heap.size + 1) 33 s := by
    rw [← hW]
    have := (St.new (w.alloc (.cells (RB.enc r) 25)) 33 s hs.m.1).alloc (.cells (encS M.s0) 33)
    simpa using this
  have hO : St W (w.heap.size + 1 + 1) 33 M.s0 := by
    rw [← hW]
    have := St.new ((w.alloc (.cells (RB.enc r) 25)).alloc (.cells (encS s) 33)) 33 M.s0 rfl
    simpa using this
  obtain ⟨s1, s2, s3, s4, s5⟩ := hS.cells
  rw [hp] at s1
  have hbl : b < w.heap.size := World.block_lt_of_cell? w ⟨b, o + p * 4, none⟩ p0
  have q0 := (hB0.cell (p := ⟨b, o + p * 4, none⟩) hbl).trans p0
  have q1 := (hB0.cell (p := ⟨b, o + p * 4 + 1, none⟩) hbl).trans p1
  have q2 := (hB0.cell (p := ⟨b, o + p * 4 + 2, none⟩) hbl).trans p2
  have q3 := (hB0.cell (p := ⟨b, o + p * 4 + 3, none⟩) hbl).trans p3
  have hA := At.new W c t f k
  have HB := stp (hid hB0) (al W (.cells #[.int .u16 c, .int .u8 t, .int .u8 f, .int .u32 k] 51))
  have hne : W.heap.size ≠ w.heap.size + 1 := by have := hO.lt; omega
  have hne2 : W.heap.size ≠ w.heap.size + 1 + 1 := by have := hO.lt; omega
  clear p0 p1 p2 p3 hbl hB0
  go_enter Try.func13, Try.ntmps13
  go_wp2_with fail
  refine (rrdX_any _ hbk.out.1 hbk.out.2 _).mono ?_
  rintro e w1 ⟨rfl, hb⟩
  have hA1 := hA.below hb
  have hS1 := (hS.alloc _).below hb
  have hO1 := (hO.alloc _).below hb
  replace HB := stp HB hb
  clear hb hA hS hO s1 s2 s3 s4 s5 q0 q1 q2 q3 hW
  obtain ⟨s1, s2, s3, s4, s5⟩ := hS1.cells
  rw [hp] at s1
  obtain ⟨a0, a1, a2, a3, _⟩ := hA1.cells
  have f0 := hS1.frozen 0
  have hS2 := hS1.setPc ((p : Int) + 1)
  have hO2 : St (w1.setCell ⟨w.heap.size + 1, 0, none⟩ (.int .i64 ((p : Int) + 1))) (w.heap.size + 1 + 1) 33 M.s0 := ⟨by rw [Below.heap_setCell _ _ _ _ (show w.heap.size + 1 + 1 ≠ w.heap.size + 1 by omega)]; exact hO1.1, hO1.2⟩
  have hA2 := hA1.off (b' := w.heap.size + 1) (j := 0) (v := .int .i64 ((p : Int) + 1)) hne
  have HB2 := hid (HB.out.setCell (p := ⟨w.heap.size + 1, 0, none⟩) (by simp) (.int .i64 ((p : Int) + 1)))
  obtain ⟨W2, hW2⟩ : ∃ W2, w1.setCell ⟨w.heap.size + 1, 0, none⟩ (.int .i64 ((p : Int) + 1)) = W2 := ⟨_, rfl⟩
  rw [hW2] at hS2 hO2 hA2 HB2
  obtain ⟨x1, x2, x3, x4, x5⟩ := hS2.cells
  obtain ⟨y0, y1, y2, y3, _⟩ := hA2.cells
  clear hS1 hO1 hA1 HB
  go_wp2_with fail
  refine (rkind_any _ hbk.out.1 hbk.out.2 _).mono ?_
  rintro e w3 ⟨rfl, hb⟩
  rw [hkd]
  have hA3 := hA2.below hb
  have hS3 := hS2.below hb
  have hO3 := hO2.below hb
  have HB3 := stp HB2 hb
  clear hb hW2 s1 s2 s3 s4 s5 a0 a1 a2 a3 f0 x1 x2 x3 x4 x5 y0 y1 y2 y3 hA2 hS2 hO2 HB2
  obtain ⟨s1, s2, s3, s4, s5⟩ := hS3.cells
  obtain ⟨a0, a1, a2, a3, _⟩ := hA3.cells
  simp only at s1 s2 s3 s4 s5
  go_wp2_with fail
  refine (WB.ralu_any (c / 16 % 16 * 16) s.a (k : Int) hs.a.1 hs.a.2 ok.2.2.2.1 ok.2.2.2.2 _).mono ?_
  rintro e w4 ⟨rfl, hb⟩
  have hA4 := hA3.below hb
  have hS4 := hS3.below hb
  have hO4 := hO3.below hb
  have HB4 := stp HB3 hb
  clear hb s1 s2 s3 s4 s5 a0 a1 a2 a3 hA3 hS3 hO3 HB3
  obtain ⟨s1, s2, s3, s4, s5⟩ := hS4.cells
  obtain ⟨a0, a1, a2, a3, _⟩ := hA4.cells
  simp only at s1 s2 s3 s4 s5
  have g0 := hS4.frozen (1)
  have S0 := hS4.setA (WM.val (c / 16 % 16 * 16) s.a (k : Int))
  have O0 : St (w4.setCell ⟨w.heap.size + 1, 1, none⟩ (.int .u32 (WM.val (c / 16 % 16 * 16) s.a (k : Int)))) (w.heap.size + 1 + 1) 33 M.s0 := ⟨by rw [Below.heap_setCell _ _ _ _ (show w.heap.size + 1 + 1 ≠ w.heap.size + 1 by omega)]; exact hO4.1, hO4.2⟩
  have H0 := hid (HB4.out.setCell (p := ⟨w.heap.size + 1, 1, none⟩) (by simp) (.int .u32 (WM.val (c / 16 % 16 * 16) s.a (k : Int))))
  have Q0 := hA4.off (b' := w.heap.size + 1) (j := 1) (v := .int .u32 (WM.val (c / 16 % 16 * 16) s.a (k : Int))) hne
  obtain ⟨V0, v0⟩ : ∃ V, w4.setCell ⟨w.heap.size + 1, 1, none⟩ (.int .u32 (WM.val (c / 16 % 16 * 16) s.a (k : Int))) = V := ⟨_, rfl⟩
  rw [v0] at S0 O0 H0 Q0
  obtain ⟨d00, d01, d02, d03, _⟩ := Q0.cells
  obtain ⟨c01, c02, c03, c04, c05⟩ := S0.cells
  simp only at S0 c01 c02 c03 c04 c05
  have g1 := S0.frozen (1)
  have S1 := S0.setA 0
  have O1 : St (V0.setCell ⟨w.heap.size + 1, 1, none⟩ (.int .u32 0)) (w.heap.size + 1 + 1) 33 M.s0 := ⟨by rw [Below.heap_setCell _ _ _ _ (show w.heap.size + 1 + 1 ≠ w.heap.size + 1 by omega)]; exact O0.1, O0.2⟩
  have H1 := hid (H0.out.setCell (p := ⟨w.heap.size + 1, 1, none⟩) (by simp) (.int .u32 0))
  have Q1 := Q0.off (b' := w.heap.size + 1) (j := 1) (v := .int .u32 0) hne
  obtain ⟨V1, v1⟩ : ∃ V, V0.setCell ⟨w.heap.size + 1, 1, none⟩ (.int .u32 0) = V := ⟨_, rfl⟩
  rw [v1] at S1 O1 H1 Q1
  obtain ⟨d10, d11, d12, d13, _⟩ := Q1.cells
  obtain ⟨c11, c12, c13, c14, c15⟩ := S1.cells
  simp only at S1 c11 c12 c13 c14 c15
  have g2 := S1.frozen (0)
  have S2 := S1.setPc (p : Int)
  have O2 : St (V1.setCell ⟨w.heap.size + 1, 0, none⟩ (.int .i64 (p : Int))) (w.heap.size + 1 + 1) 33 M.s0 := ⟨by rw [Below.heap_setCell _ _ _ _ (show w.heap.size + 1 + 1 ≠ w.heap.size + 1 by omega)]; exact O1.1, O1.2⟩
  have H2 := hid (H1.out.setCell (p := ⟨w.heap.size + 1, 0, none⟩) (by simp) (.int .i64 (p : Int)))
  have Q2 := Q1.off (b' := w.heap.size + 1) (j := 0) (v := .int .i64 (p : Int)) hne
  obtain ⟨V2, v2⟩ : ∃ V, V1.setCell ⟨w.heap.size + 1, 0, none⟩ (.int .i64 (p : Int)) = V := ⟨_, rfl⟩
  rw [v2] at S2 O2 H2 Q2
  obtain ⟨d20, d21, d22, d23, _⟩ := Q2.cells
  obtain ⟨c21, c22, c23, c24, c25⟩ := S2.cells
  simp only at S2 c21 c22 c23 c24 c25
  have g3 := S2.frozen (19)
  have S3 := S2.setEn true
  have O3 : St (V2.setCell ⟨w.heap.size + 1, 19, none⟩ (.bool true)) (w.heap.size + 1 + 1) 33 M.s0 := ⟨by rw [Below.heap_setCell _ _ _ _ (show w.heap.size + 1 + 1 ≠ w.heap.size + 1 by omega)]; exact O2.1, O2.2⟩
  have H3 := hid (H2.out.setCell (p := ⟨w.heap.size + 1, 19, none⟩) (by simp) (.bool true))
  have Q3 := Q2.off (b' := w.heap.size + 1) (j := 19) (v := .bool true) hne
  obtain ⟨V3, v3⟩ : ∃ V, V2.setCell ⟨w.heap.size + 1, 19, none⟩ (.bool true) = V := ⟨_, rfl⟩
  rw [v3] at S3 O3 H3 Q3
  obtain ⟨d30, d31, d32, d33, _⟩ := Q3.cells
  obtain ⟨c31, c32, c33, c34, c35⟩ := S3.cells
  simp only at S3 c31 c32 c33 c34 c35
  have g4 := S3.frozen (20)
  have S4 := S3.setAn 0
  have O4 : St (V3.setCell ⟨w.heap.size + 1, 20, none⟩ (.int .u32 0)) (w.heap.size + 1 + 1) 33 M.s0 := ⟨by rw [Below.heap_setCell _ _ _ _ (show w.heap.size + 1 + 1 ≠ w.heap.size + 1 by omega)]; exact O3.1, O3.2⟩
  have H4 := hid (H3.out.setCell (p := ⟨w.heap.size + 1, 20, none⟩) (by simp) (.int .u32 0))
  have Q4 := Q3.off (b' := w.heap.size + 1) (j := 20) (v := .int .u32 0) hne
  obtain ⟨V4, v4⟩ : ∃ V, V3.setCell ⟨w.heap.size + 1, 20, none⟩ (.int .u32 0) = V := ⟨_, rfl⟩
  rw [v4] at S4 O4 H4 Q4
  obtain ⟨d40, d41, d42, d43, _⟩ := Q4.cells
  obtain ⟨c41, c42, c43, c44, c45⟩ := S4.cells
  simp only at S4 c41 c42 c43 c44 c45
  have hld := S4.load
  have hsz2 := encS_size S4.2
  obtain ⟨W5, hst, hR5, _, _, hB5⟩ := O4.store S4.2
  have HB5 := hid (hB5 w.heap.size w (by omega) H4.out)
  have HR5 := hid hR5
  clear hB5 hR5
  go_wp2
  refine bodyPost_ret (v := .agg (encS (M.stepI (c, t, f, k) r s))) ?_ rfl ⟨rfl, HB5.out⟩
  rw [HF.out]
  refine results_st Try.results13 _ rfl ?_
  have := HR5.out
  rw [← hp] at this
  exact this

set_option maxHeartbeats 3200000 in
set_option maxRecDepth 1000000 in
theorem rs12y (b o n cap p : Nat) (c : Int) (t f k : Nat) (r : List Int) (s : M.S) (hn : n ≤ 65536) (hp : s.pc = p) (hpn : p < n) (ok : M.okI (c, t, f, k)) (hr : R.okR r) (hs : M.okS s) (w : World) (hl : LiesAt w b o p (c, t, f, k)) (hkd : M.kind c = 12) (hbx : ¬ c / 8 % 2 = 1) (hok : WM.ask (c / 16 % 16 * 16) s.a (k : Int) = true) :
    Calls Try.prog 13 #[.slice (some ⟨b, o, none⟩) n cap, .agg (RB.enc r), .agg (encS s)] w fun e w' => e = .returned (.agg (encS (M.stepI (c, t, f, k) r s))) ∧ Below w.heap.size w w' := by
  have hoth : M.oth (c, t, f, k) s = (k : Int) := by unfold M.oth; simp [hbx]
  have HF : Hid (M.stepI (c, t, f, k) r s = _) := (by rw [M.st12 hkd, hoth]; show M.S.mk (s.pc + 1 + (if WM.ask (c / 16 % 16 * 16) s.a (k : Int) = true then (t : Int) else f)) _ _ _ _ _ = _; rw [hok])
  have hdx : M.rdX c = false := by unfold M.rdX; rw [hkd]; simp [hbx]
  obtain ⟨p0, p1, p2, p3⟩ := hl
  simp only at p0 p1 p2 p3
  have i1 : (p : Int) < (n : Int) := by omega
  have hbk := hid ok.1
  have b0 : 0 ≤ c ∧ c < 65536 := ok.1
  have b1 : 0 ≤ (t : Int) ∧ (t : Int) < 256 := ok.2.1
  have b2 : 0 ≤ (f : Int) ∧ (f : Int) < 256 := ok.2.2.1
  have b3 : 0 ≤ (k : Int) ∧ (k : Int) < 4294967296 := ok.2.2.2
  have hX := RB.lcf_eq
  have hz := s0_lit
  obtain ⟨W, hW⟩ : ∃ W, ((w.alloc (.cells (RB.enc r) 25)).alloc (.cells (encS s) 33)).alloc (.cells (encS M.s0) 33) = W := ⟨_, rfl⟩
  have hB0 : Below w.heap.size w W := by rw [← hW]; exact (((Below.refl _ w).alloc (Nat.le_refl _) _).alloc (by simp) _).alloc (by simp; omega) _
  have hS : St W (w.heap.size + 1) 33 s := by
    rw [← hW]
    have := (St.new (w.alloc (.cells (RB.enc r) 25)) 33 s hs.m.1).alloc (.cells (encS M.s0) 33)
    simpa using this
  have hO : St W (w.heap.size + 1 + 1) 33 M.s0 := by
    rw [← hW]
    have := St.new ((w.alloc (.cells (RB.enc r) 25)).alloc (.cells (encS s) 33)) 33 M.s0 rfl
    simpa using this
  obtain ⟨s1, s2, s3, s4, s5⟩ := hS.cells
  rw [hp] at s1
  have hbl : b < w.heap.size := World.block_lt_of_cell? w ⟨b, o + p * 4, none⟩ p0
  have q0 := (hB0.cell (p := ⟨b, o + p * 4, none⟩) hbl).trans p0
  have q1 := (hB0.cell (p := ⟨b, o + p * 4 + 1, none⟩) hbl).trans p1
  have q2 := (hB0.cell (p := ⟨b, o + p * 4 + 2, none⟩) hbl).trans p2
  have q3 := (hB0.cell (p := ⟨b, o + p * 4 + 3, none⟩) hbl).trans p3
  have hA := At.new W c t f k
  have HB := stp (hid hB0) (al W (.cells #[.int .u16 c, .int .u8 t, .int .u8 f, .int .u32 k] 51))
  have hne : W.heap.size ≠ w.heap.size + 1 := by have := hO.lt; omega
  have hne2 : W.heap.size ≠ w.heap.size + 1 + 1 := by have := hO.lt; omega
  clear p0 p1 p2 p3 hbl hB0
  go_enter Try.func13, Try.ntmps13
  go_wp2_with fail
  refine (rrdX_any _ hbk.out.1 hbk.out.2 _).mono ?_
  rintro e w1 ⟨rfl, hb⟩
  have hA1 := hA.below hb
  have hS1 := (hS.alloc _).below hb
  have hO1 := (hO.alloc _).below hb
  replace HB := stp HB hb
  clear hb hA hS hO s1 s2 s3 s4 s5 q0 q1 q2 q3 hW
  obtain ⟨s1, s2, s3, s4, s5⟩ := hS1.cells
  rw [hp] at s1
  obtain ⟨a0, a1, a2, a3, _⟩ := hA1.cells
  have f0 := hS1.frozen 0
  have hS2 := hS1.setPc ((p : Int) + 1)
  have hO2 : St (w1.setCell ⟨w.heap.size + 1, 0, none⟩ (.int .i64 ((p : Int) + 1))) (w.heap.size + 1 + 1) 33 M.s0 := ⟨by rw [Below.heap_setCell _ _ _ _ (show w.heap.size + 1 + 1 ≠ w.heap.size + 1 by omega)]; exact hO1.1, hO1.2⟩
  have hA2 := hA1.off (b' := w.heap.size + 1) (j := 0) (v := .int .i64 ((p : Int) + 1)) hne
  have HB2 := hid (HB.out.setCell (p := ⟨w.heap.size + 1, 0, none⟩) (by simp) (.int .i64 ((p : Int) + 1)))
  obtain ⟨W2, hW2⟩ : ∃ W2, w1.setCell ⟨w.heap.size + 1, 0, none⟩ (.int .i64 ((p : Int) + 1)) = W2 := ⟨_, rfl⟩
  rw [hW2] at hS2 hO2 hA2 HB2
  obtain ⟨x1, x2, x3, x4, x5⟩ := hS2.cells
  obtain ⟨y0, y1, y2, y3, _⟩ := hA2.cells
  clear hS1 hO1 hA1 HB
  go_wp2_with fail
  refine (rkind_any _ hbk.out.1 hbk.out.2 _).mono ?_
  rintro e w3 ⟨rfl, hb⟩
  rw [hkd]
  have hA3 := hA2.below hb
  have hS3 := hS2.below hb
  have hO3 := hO2.below hb
  have HB3 := stp HB2 hb
  clear hb hW2 s1 s2 s3 s4 s5 a0 a1 a2 a3 f0 x1 x2 x3 x4 x5 y0 y1 y2 y3 hA2 hS2 hO2 HB2
  obtain ⟨s1, s2, s3, s4, s5⟩ := hS3.cells
  obtain ⟨a0, a1, a2, a3, _⟩ := hA3.cells
  simp only at s1 s2 s3 s4 s5
  go_wp2_with fail
  refine (WB.rask_any (c / 16 % 16 * 16) s.a (k : Int) hs.a.1 hs.a.2 ok.2.2.2.1 ok.2.2.2.2 _).mono ?_
  rintro e w4 ⟨rfl, hb⟩
  have hA4 := hA3.below hb
  have hS4 := hS3.below hb
  have hO4 := hO3.below hb
  have HB4 := stp HB3 hb
  clear hb s1 s2 s3 s4 s5 a0 a1 a2 a3 hA3 hS3 hO3 HB3
  obtain ⟨s1, s2, s3, s4, s5⟩ := hS4.cells
  obtain ⟨a0, a1, a2, a3, _⟩ := hA4.cells
  simp only at s1 s2 s3 s4 s5
  have g0 := hS4.frozen (0)
  have S0 := hS4.setPc ((p : Int) + 1 + (t : Int))
  have O0 : St (w4.setCell ⟨w.heap.size + 1, 0, none⟩ (.int .i64 ((p : Int) + 1 + (t : Int)))) (w.heap.size + 1 + 1) 33 M.s0 := ⟨by rw [Below.heap_setCell _ _ _ _ (show w.heap.size + 1 + 1 ≠ w.heap.size + 1 by omega)]; exact hO4.1, hO4.2⟩
  have H0 := hid (HB4.out.setCell (p := ⟨w.heap.size + 1, 0, none⟩) (by simp) (.int .i64 ((p : Int) + 1 + (t : Int))))
  have Q0 := hA4.off (b' := w.heap.size + 1) (j := 0) (v := .int .i64 ((p : Int) + 1 + (t : Int))) hne
  obtain ⟨V0, v0⟩ : ∃ V, w4.setCell ⟨w.heap.size + 1, 0, none⟩ (.int .i64 ((p : Int) + 1 + (t : Int))) = V := ⟨_, rfl⟩
  rw [v0] at S0 O0 H0 Q0
  obtain ⟨d00, d01, d02, d03, _⟩ := Q0.cells
  obtain ⟨c01, c02, c03, c04, c05⟩ := S0.cells
  simp only at S0 c01 c02 c03 c04 c05
  have hld := S0.load
  have hsz2 := encS_size S0.2
  obtain ⟨W5, hst, hR5, _, _, hB5⟩ := O0.store S0.2
  have HB5 := hid (hB5 w.heap.size w (by omega) H0.out)
  have HR5 := hid hR5
  clear hB5 hR5
  go_wp2
  refine bodyPost_ret (v := .agg (encS (M.stepI (c, t, f, k) r s))) ?_ rfl ⟨rfl, HB5.out⟩
  rw [HF.out]
  refine results_st Try.results13 _ rfl ?_
  have := HR5.out
  rw [← hp] at this
  exact this

set_option maxHeartbeats 3200000 in
set_option maxRecDepth 1000000 in
theorem rs12n (b o n cap p : Nat) (c : Int) (t f k : Nat) (r : List Int) (s : M.S) (hn : n ≤ 65536) (hp : s.pc = p) (hpn : p < n) (ok : M.okI (c, t, f, k)) (hr : R.okR r) (hs : M.okS s) (w : World) (hl : LiesAt w b o p (c, t, f, k)) (hkd : M.kind c = 12) (hbx : ¬ c / 8 % 2 = 1) (hok : WM.ask (c / 16 % 16 * 16) s.a (k : Int) = false) :
    Calls Try.prog 13 #[.slice (some ⟨b, o, none⟩) n cap, .agg (RB.enc r), .agg (encS s)] w fun e w' => e = .returned (.agg (encS (M.stepI (c, t, f, k) r s))) ∧ Below w.heap.size w w' := by
  have hoth : M.oth (c, t, f, k) s = (k : Int) := by unfold M.oth; simp [hbx]
  have HF : Hid (M.stepI (c, t, f, k) r s = _) := (by rw [M.st12 hkd, hoth]; show M.S.mk (s.pc + 1 + (if WM.ask (c / 16 % 16 * 16) s.a (k : Int) = true then (t : Int) else f)) _ _ _ _ _ = _; rw [hok])
  have hdx : M.rdX c = false := by unfold M.rdX; rw [hkd]; simp [hbx]
  obtain ⟨p0, p1, p2, p3⟩ := hl
  simp only at p0 p1 p2 p3
  have i1 : (p : Int) < (n : Int) := by omega
  have hbk := hid ok.1
  have b0 : 0 ≤ c ∧ c < 65536 := ok.1
  have b1 : 0 ≤ (t : Int) ∧ (t : Int) < 256 := ok.2.1
  have b2 : 0 ≤ (f : Int) ∧ (f : Int) < 256 := ok.2.2.1
  have b3 : 0 ≤ (k : Int) ∧ (k : Int) < 4294967296 := ok.2.2.2
  have hX := RB.lcf_eq
  have hz := s0_lit
  obtain ⟨W, hW⟩ : ∃ W, ((w.alloc (.cells (RB.enc r) 25)).alloc (.cells (encS s) 33)).alloc (.cells (encS M.s0) 33) = W := ⟨_, rfl⟩
  have hB0 : Below w.heap.size w W := by rw [← hW]; exact (((Below.refl _ w).alloc (Nat.le_refl _) _).alloc (by simp) _).alloc (by simp; omega) _
  have hS : St W (w.heap.size + 1) 33 s := by
    rw [← hW]
    have := (St.new (w.alloc (.cells (RB.enc r) 25)) 33 s hs.m.1).alloc (.cells (encS M.s0) 33)
    simpa using this
  have hO : St W (w.heap.size + 1 + 1) 33 M.s0 := by
    rw [← hW]
    have := St.new ((w.alloc (.cells (RB.enc r) 25)).alloc (.cells (encS s) 33)) 33 M.s0 rfl
    simpa using this
  obtain ⟨s1, s2, s3, s4, s5⟩ := hS.cells
  rw [hp] at s1
  have hbl : b < w.heap.size := World.block_lt_of_cell? w ⟨b, o + p * 4, none⟩ p0
  have q0 := (hB0.cell (p := ⟨b, o + p * 4, none⟩) hbl).trans p0
  have q1 := (hB0.cell (p := ⟨b, o + p * 4 + 1, none⟩) hbl).trans p1
  have q2 := (hB0.cell (p := ⟨b, o + p * 4 + 2, none⟩) hbl).trans p2
  have q3 := (hB0.cell (p := ⟨b, o + p * 4 + 3, none⟩) hbl).trans p3
  have hA := At.new W c t f k
  have HB := stp (hid hB0) (al W (.cells #[.int .u16 c, .int .u8 t, .int .u8 f, .int .u32 k] 51))
  have hne : W.heap.size ≠ w.heap.size + 1 := by have := hO.lt; omega
  have hne2 : W.heap.size ≠ w.heap.size + 1 + 1 := by have := hO.lt; omega
  clear p0 p1 p2 p3 hbl hB0
  go_enter Try.func13, Try.ntmps13
  go_wp2_with fail
  refine (rrdX_any _ hbk.out.1 hbk.out.2 _).mono ?_
  rintro e w1 ⟨rfl, hb⟩
  have hA1 := hA.below hb
  have hS1 := (hS.alloc _).below hb
  have hO1 := (hO.alloc _).below hb
  replace HB := stp HB hb
  clear hb hA hS hO s1 s2 s3 s4 s5 q0 q1 q2 q3 hW
  obtain ⟨s1, s2, s3, s4, s5⟩ := hS1.cells
  rw [hp] at s1
  obtain ⟨a0, a1, a2, a3, _⟩ := hA1.cells
  have f0 := hS1.frozen 0
  have hS2 := hS1.setPc ((p : Int) + 1)
  have hO2 : St (w1.setCell ⟨w.heap.size + 1, 0, none⟩ (.int .i64 ((p : Int) + 1))) (w.heap.size + 1 + 1) 33 M.s0 := ⟨by rw [Below.heap_setCell _ _ _ _ (show w.heap.size + 1 + 1 ≠ w.heap.size + 1 by omega)]; exact hO1.1, hO1.2⟩
  have hA2 := hA1.off (b' := w.heap.size + 1) (j := 0) (v := .int .i64 ((p : Int) + 1)) hne
  have HB2 := hid (HB.out.setCell (p := ⟨w.heap.size + 1, 0, none⟩) (by simp) (.int .i64 ((p : Int) + 1)))
  obtain ⟨W2, hW2⟩ : ∃ W2, w1.setCell ⟨w.heap.size + 1, 0, none⟩ (.int .i64 ((p : Int) + 1)) = W2 := ⟨_, rfl⟩
  rw [hW2] at hS2 hO2 hA2 HB2
  obtain ⟨x1, x2, x3, x4, x5⟩ := hS2.cells
  obtain ⟨y0, y1, y2, y3, _⟩ := hA2.cells
  clear hS1 hO1 hA1 HB
  go_wp2_with fail
  refine (rkind_any _ hbk.out.1 hbk.out.2 _).mono ?_
  rintro e w3 ⟨rfl, hb⟩
  rw [hkd]
  have hA3 := hA2.below hb
  have hS3 := hS2.below hb
  have hO3 := hO2.below hb
  have HB3 := stp HB2 hb
  clear hb hW2 s1 s2 s3 s4 s5 a0 a1 a2 a3 f0 x1 x2 x3 x4 x5 y0 y1 y2 y3 hA2 hS2 hO2 HB2
  obtain ⟨s1, s2, s3, s4, s5⟩ := hS3.cells
  obtain ⟨a0, a1, a2, a3, _⟩ := hA3.cells
  simp only at s1 s2 s3 s4 s5
  go_wp2_with fail
  refine (WB.rask_any (c / 16 % 16 * 16) s.a (k : Int) hs.a.1 hs.a.2 ok.2.2.2.1 ok.2.2.2.2 _).mono ?_
  rintro e w4 ⟨rfl, hb⟩
  have hA4 := hA3.below hb
  have hS4 := hS3.below hb
  have hO4 := hO3.below hb
  have HB4 := stp HB3 hb
  clear hb s1 s2 s3 s4 s5 a0 a1 a2 a3 hA3 hS3 hO3 HB3
  obtain ⟨s1, s2, s3, s4, s5⟩ := hS4.cells
  obtain ⟨a0, a1, a2, a3, _⟩ := hA4.cells
  simp only at s1 s2 s3 s4 s5
  have g0 := hS4.frozen (0)
  have S0 := hS4.setPc ((p : Int) + 1 + (f : Int))
  have O0 : St (w4.setCell ⟨w.heap.size + 1, 0, none⟩ (.int .i64 ((p : Int) + 1 + (f : Int)))) (w.heap.size + 1 + 1) 33 M.s0 := ⟨by rw [Below.heap_setCell _ _ _ _ (show w.heap.size + 1 + 1 ≠ w.heap.size + 1 by omega)]; exact hO4.1, hO4.2⟩
  have H0 := hid (HB4.out.setCell (p := ⟨w.heap.size + 1, 0, none⟩) (by simp) (.int .i64 ((p : Int) + 1 + (f : Int))))
  have Q0 := hA4.off (b' := w.heap.size + 1) (j := 0) (v := .int .i64 ((p : Int) + 1 + (f : Int))) hne
  obtain ⟨V0, v0⟩ : ∃ V, w4.setCell ⟨w.heap.size + 1, 0, none⟩ (.int .i64 ((p : Int) + 1 + (f : Int))) = V := ⟨_, rfl⟩
  rw [v0] at S0 O0 H0 Q0
  obtain ⟨d00, d01, d02, d03, _⟩ := Q0.cells
  obtain ⟨c01, c02, c03, c04, c05⟩ := S0.cells
  simp only at S0 c01 c02 c03 c04 c05
  have hld := S0.load
  have hsz2 := encS_size S0.2
  obtain ⟨W5, hst, hR5, _, _, hB5⟩ := O0.store S0.2
  have HB5 := hid (hB5 w.heap.size w (by omega) H0.out)
  have HR5 := hid hR5
  clear hB5 hR5
  go_wp2
  refine bodyPost_ret (v := .agg (encS (M.stepI (c, t, f, k) r s))) ?_ rfl ⟨rfl, HB5.out⟩
  rw [HF.out]
  refine results_st Try.results13 _ rfl ?_
  have := HR5.out
  rw [← hp] at this
  exact this

set_option maxHeartbeats 3200000 in
set_option maxRecDepth 1000000 in
theorem rs10x (b o n cap p : Nat) (c : Int) (t f k : Nat) (r : List Int) (s : M.S) (hn : n ≤ 65536) (hp : s.pc = p) (hpn : p < n) (ok : M.okI (c, t, f, k)) (hr : R.okR r) (hs : M.okS s) (w : World) (hl : LiesAt w b o p (c, t, f, k)) (hkd : M.kind c = 10) (hbx : c / 8 % 2 = 1) (hok : WM.ok (c / 16 % 16 * 16) s.x = true) :
    Calls Try.prog 13 #[.slice (some ⟨b, o, none⟩) n cap, .agg (RB.enc r), .agg (encS s)] w fun e w' => e = .returned (.agg (encS (M.stepI (c, t, f, k) r s))) ∧ Below w.heap.size w w' := by
  have hoth : M.oth (c, t, f, k) s = s.x := by unfold M.oth; simp [hbx]
  have HF : Hid (M.stepI (c, t, f, k) r s = _) := (by rw [M.st10 hkd, hoth]; exact if_pos hok)
  have hdx : M.rdX c = true := by unfold M.rdX; rw [hkd]; simp [hbx]
  obtain ⟨p0, p1, p2, p3⟩ := hl
  simp only at p0 p1 p2 p3
  have i1 : (p : Int) < (n : Int) := by omega
  have hbk := hid ok.1
  have b0 : 0 ≤ c ∧ c < 65536 := ok.1
  have b1 : 0 ≤ (t : Int) ∧ (t : Int) < 256 := ok.2.1
  have b2 : 0 ≤ (f : Int) ∧ (f : Int) < 256 := ok.2.2.1
  have b3 : 0 ≤ (k : Int) ∧ (k : Int) < 4294967296 := ok.2.2.2
  have hX := RB.lcf_eq
  have hz := s0_lit
  obtain ⟨W, hW⟩ : ∃ W, ((w.alloc (.cells (RB.enc r) 25)).alloc (.cells (encS s) 33)).alloc (.cells (encS M.s0) 33) = W := ⟨_, rfl⟩
  have hB0 : Below w.heap.size w W := by rw [← hW]; exact (((Below.refl _ w).alloc (Nat.le_refl _) _).alloc (by simp) _).alloc (by simp; omega) _
  have hS : St W (w.heap.size + 1) 33 s := by
    rw [← hW]
    have := (St.new (w.alloc (.cells (RB.enc r) 25)) 33 s hs.m.1).alloc (.cells (encS M.s0) 33)
    simpa using this
  have hO : St W (w.heap.size + 1 + 1) 33 M.s0 := by
    rw [← hW]
    have := St.new ((w.alloc (.cells (RB.enc r) 25)).alloc (.cells (encS s) 33)) 33 M.s0 rfl
    simpa using this
  obtain ⟨s1, s2, s3, s4, s5⟩ := hS.cells
  rw [hp] at s1
  have hbl : b < w.heap.size := World.block_lt_of_cell? w ⟨b, o + p * 4, none⟩ p0
  have q0 := (hB0.cell (p := ⟨b, o + p * 4, none⟩) hbl).trans p0
  have q1 := (hB0.cell (p := ⟨b, o + p * 4 + 1, none⟩) hbl).trans p1
  have q2 := (hB0.cell (p := ⟨b, o + p * 4 + 2, none⟩) hbl).trans p2
  have q3 := (hB0.cell (p := ⟨b, o + p * 4 + 3, none⟩) hbl).trans p3
  have hA := At.new W c t f k
  have HB := stp (hid hB0) (al W (.cells #[.int .u16 c, .int .u8 t, .int .u8 f, .int .u32 k] 51))
  have hne : W.heap.size ≠ w.heap.size + 1 := by have := hO.lt; omega
  have hne2 : W.heap.size ≠ w.heap.size + 1 + 1 := by have := hO.lt; omega
  clear p0 p1 p2 p3 hbl hB0
  go_enter Try.func13, Try.ntmps13
  go_wp2_with fail
  refine (rrdX_any _ hbk.out.1 hbk.out.2 _).mono ?_
  rintro e w1 ⟨rfl, hb⟩
  have hA1 := hA.below hb
  have hS1 := (hS.alloc _).below hb
  have hO1 := (hO.alloc _).below hb
  replace HB := stp HB hb
  clear hb hA hS hO s1 s2 s3 s4 s5 q0 q1 q2 q3 hW
  obtain ⟨s1, s2, s3, s4, s5⟩ := hS1.cells
  rw [hp] at s1
  obtain ⟨a0, a1, a2, a3, _⟩ := hA1.cells
  have f0 := hS1.frozen 0
  have hS2 := hS1.setPc ((p : Int) + 1)
  have hO2 : St (w1.setCell ⟨w.heap.size + 1, 0, none⟩ (.int .i64 ((p : Int) + 1))) (w.heap.size + 1 + 1) 33 M.s0 := ⟨by rw [Below.heap_setCell _ _ _ _ (show w.heap.size + 1 + 1 ≠ w.heap.size + 1 by omega)]; exact hO1.1, hO1.2⟩
  have hA2 := hA1.off (b' := w.heap.size + 1) (j := 0) (v := .int .i64 ((p : Int) + 1)) hne
  have HB2 := hid (HB.out.setCell (p := ⟨w.heap.size + 1, 0, none⟩) (by simp) (.int .i64 ((p : Int) + 1)))
  obtain ⟨W2, hW2⟩ : ∃ W2, w1.setCell ⟨w.heap.size + 1, 0, none⟩ (.int .i64 ((p : Int) + 1)) = W2 := ⟨_, rfl⟩
  rw [hW2] at hS2 hO2 hA2 HB2
  obtain ⟨x1, x2, x3, x4, x5⟩ := hS2.cells
  obtain ⟨y0, y1, y2, y3, _⟩ := hA2.cells
  clear hS1 hO1 hA1 HB
  go_wp2_with fail
  refine (rkind_any _ hbk.out.1 hbk.out.2 _).mono ?_
  rintro e w3 ⟨rfl, hb⟩
  rw [hkd]
  have hA3 := hA2.below hb
  have hS3 := hS2.below hb
  have hO3 := hO2.below hb
  have HB3 := stp HB2 hb
  clear hb hW2 s1 s2 s3 s4 s5 a0 a1 a2 a3 f0 x1 x2 x3 x4 x5 y0 y1 y2 y3 hA2 hS2 hO2 HB2
  obtain ⟨s1, s2, s3, s4, s5⟩ := hS3.cells
  obtain ⟨a0, a1, a2, a3, _⟩ := hA3.cells
  simp only at s1 s2 s3 s4 s5
  go_wp2_with fail
  refine (WB.ralu_any (c / 16 % 16 * 16) s.a s.x hs.a.1 hs.a.2 hs.x.1 hs.x.2 _).mono ?_
  rintro e w4 ⟨rfl, hb⟩
  have hA4 := hA3.below hb
  have hS4 := hS3.below hb
  have hO4 := hO3.below hb
  have HB4 := stp HB3 hb
  clear hb s1 s2 s3 s4 s5 a0 a1 a2 a3 hA3 hS3 hO3 HB3
  obtain ⟨s1, s2, s3, s4, s5⟩ := hS4.cells
  obtain ⟨a0, a1, a2, a3, _⟩ := hA4.cells
  simp only at s1 s2 s3 s4 s5
  have g0 := hS4.frozen (1)
  have S0 := hS4.setA (WM.val (c / 16 % 16 * 16) s.a s.x)
  have O0 : St (w4.setCell ⟨w.heap.size + 1, 1, none⟩ (.int .u32 (WM.val (c / 16 % 16 * 16) s.a s.x))) (w.heap.size + 1 + 1) 33 M.s0 := ⟨by rw [Below.heap_setCell _ _ _ _ (show w.heap.size + 1 + 1 ≠ w.heap.size + 1 by omega)]; exact hO4.1, hO4.2⟩
  have H0 := hid (HB4.out.setCell (p := ⟨w.heap.size + 1, 1, none⟩) (by simp) (.int .u32 (WM.val (c / 16 % 16 * 16) s.a s.x)))
  have Q0 := hA4.off (b' := w.heap.size + 1) (j := 1) (v := .int .u32 (WM.val (c / 16 % 16 * 16) s.a s.x)) hne
  obtain ⟨V0, v0⟩ : ∃ V, w4.setCell ⟨w.heap.size + 1, 1, none⟩ (.int .u32 (WM.val (c / 16 % 16 * 16) s.a s.x)) = V := ⟨_, rfl⟩
  rw [v0] at S0 O0 H0 Q0
  obtain ⟨d00, d01, d02, d03, _⟩ := Q0.cells
  obtain ⟨c01, c02, c03, c04, c05⟩ := S0.cells
  simp only at S0 c01 c02 c03 c04 c05
  have hld := S0.load
  have hsz2 := encS_size S0.2
  obtain ⟨W5, hst, hR5, _, _, hB5⟩ := O0.store S0.2
  have HB5 := hid (hB5 w.heap.size w (by omega) H0.out)
  have HR5 := hid hR5
  clear hB5 hR5
  go_wp2
  refine bodyPost_ret (v := .agg (encS (M.stepI (c, t, f, k) r s))) ?_ rfl ⟨rfl, HB5.out⟩
  rw [HF.out]
  refine results_st Try.results13 _ rfl ?_
  have := HR5.out
  rw [← hp] at this
  exact this

set_option maxHeartbeats 3200000 in
set_option maxRecDepth 1000000 in
theorem rs10xz (b o n cap p : Nat) (c : Int) (t f k : Nat) (r : List Int) (s : M.S) (hn : n ≤ 65536) (hp : s.pc = p) (hpn : p < n) (ok : M.okI (c, t, f, k)) (hr : R.okR r) (hs : M.okS s) (w : World) (hl : LiesAt w b o p (c, t, f, k)) (hkd : M.kind c = 10) (hbx : c / 8 % 2 = 1) (hok : WM.ok (c / 16 % 16 * 16) s.x = false) :
    Calls Try.prog 13 #[.slice (some ⟨b, o, none⟩) n cap, .agg (RB.enc r), .agg (encS s)] w fun e w' => e = .returned (.agg (encS (M.stepI (c, t, f, k) r s))) ∧ Below w.heap.size w w' := by
  have hoth : M.oth (c, t, f, k) s = s.x := by unfold M.oth; simp [hbx]
  have HF : Hid (M.stepI (c, t, f, k) r s = _) := (by rw [M.st10 hkd, hoth]; exact if_neg (by unfold M.opI; simp only; rw [hok]; simp))
  have hdx : M.rdX c = true := by unfold M.rdX; rw [hkd]; simp [hbx]
  obtain ⟨p0, p1, p2, p3⟩ := hl
  simp only at p0 p1 p2 p3
  have i1 : (p : Int) < (n : Int) := by omega
  have hbk := hid ok.1
  have b0 : 0 ≤ c ∧ c < 65536 := ok.1
  have b1 : 0 ≤ (t : Int) ∧ (t : Int) < 256 := ok.2.1
  have b2 : 0 ≤ (f : Int) ∧ (f : Int) < 256 := ok.2.2.1
  have b3 : 0 ≤ (k : Int) ∧ (k : Int) < 4294967296 := ok.2.2.2
  have hX := RB.lcf_eq
  have hz := s0_lit
  obtain ⟨W, hW⟩ : ∃ W, ((w.alloc (.cells (RB.enc r) 25)).alloc (.cells (encS s) 33)).alloc (.cells (encS M.s0) 33) = W := ⟨_, rfl⟩
  have hB0 : Below w.heap.size w W := by rw [← hW]; exact (((Below.refl _ w).alloc (Nat.le_refl _) _).alloc (by simp) _).alloc (by simp; omega) _
  have hS : St W (w.heap.size + 1) 33 s := by
    rw [← hW]
    have := (St.new (w.alloc (.cells (RB.enc r) 25)) 33 s hs.m.1).alloc (.cells (encS M.s0) 33)
    simpa using this
  have hO : St W (w.heap.size + 1 + 1) 33 M.s0 := by
    rw [← hW]
    have := St.new ((w.alloc (.cells (RB.enc r) 25)).alloc (.cells (encS s) 33)) 33 M.s0 rfl
    simpa using this
  obtain ⟨s1, s2, s3, s4, s5⟩ := hS.cells
  rw [hp] at s1
  have hbl : b < w.heap.size := World.block_lt_of_cell? w ⟨b, o + p * 4, none⟩ p0
  have q0 := (hB0.cell (p := ⟨b, o + p * 4, none⟩) hbl).trans p0
  have q1 := (hB0.cell (p := ⟨b, o + p * 4 + 1, none⟩) hbl).trans p1
  have q2 := (hB0.cell (p := ⟨b, o + p * 4 + 2, none⟩) hbl).trans p2
  have q3 := (hB0.cell (p := ⟨b, o + p * 4 + 3, none⟩) hbl).trans p3
  have hA := At.new W c t f k
  have HB := stp (hid hB0) (al W (.cells #[.int .u16 c, .int .u8 t, .int .u8 f, .int .u32 k] 51))
  have hne : W.heap.size ≠ w.heap.size + 1 := by have := hO.lt; omega
  have hne2 : W.heap.size ≠ w.heap.size + 1 + 1 := by have := hO.lt; omega
  clear p0 p1 p2 p3 hbl hB0
  go_enter Try.func13, Try.ntmps13
  go_wp2_with fail
  refine (rrdX_any _ hbk.out.1 hbk.out.2 _).mono ?_
  rintro e w1 ⟨rfl, hb⟩
  have hA1 := hA.below hb
  have hS1 := (hS.alloc _).below hb
  have hO1 := (hO.alloc _).below hb
  replace HB := stp HB hb
  clear hb hA hS hO s1 s2 s3 s4 s5 q0 q1 q2 q3 hW
  obtain ⟨s1, s2, s3, s4, s5⟩ := hS1.cells
  rw [hp] at s1
  obtain ⟨a0, a1, a2, a3, _⟩ := hA1.cells
  have f0 := hS1.frozen 0
  have hS2 := hS1.setPc ((p : Int) + 1)
  have hO2 : St (w1.setCell ⟨w.heap.size + 1, 0, none⟩ (.int .i64 ((p : Int) + 1))) (w.heap.size + 1 + 1) 33 M.s0 := ⟨by rw [Below.heap_setCell _ _ _ _ (show w.heap.size + 1 + 1 ≠ w.heap.size + 1 by omega)]; exact hO1.1, hO1.2⟩
  have hA2 := hA1.off (b' := w.heap.size + 1) (j := 0) (v := .int .i64 ((p : Int) + 1)) hne
  have HB2 := hid (HB.out.setCell (p := ⟨w.heap.size + 1, 0, none⟩) (by simp) (.int .i64 ((p : Int) + 1)))
  obtain ⟨W2, hW2⟩ : ∃ W2, w1.setCell ⟨w.heap.size + 1, 0, none⟩ (.int .i64 ((p : Int) + 1)) = W2 := ⟨_, rfl⟩
  rw [hW2] at hS2 hO2 hA2 HB2
  obtain ⟨x1, x2, x3, x4, x5⟩ := hS2.cells
  obtain ⟨y0, y1, y2, y3, _⟩ := hA2.cells
  clear hS1 hO1 hA1 HB
  go_wp2_with fail
  refine (rkind_any _ hbk.out.1 hbk.out.2 _).mono ?_
  rintro e w3 ⟨rfl, hb⟩
  rw [hkd]
  have hA3 := hA2.below hb
  have hS3 := hS2.below hb
  have hO3 := hO2.below hb
  have HB3 := stp HB2 hb
  clear hb hW2 s1 s2 s3 s4 s5 a0 a1 a2 a3 f0 x1 x2 x3 x4 x5 y0 y1 y2 y3 hA2 hS2 hO2 HB2
  obtain ⟨s1, s2, s3, s4, s5⟩ := hS3.cells
  obtain ⟨a0, a1, a2, a3, _⟩ := hA3.cells
  simp only at s1 s2 s3 s4 s5
  go_wp2_with fail
  refine (WB.ralu_any (c / 16 % 16 * 16) s.a s.x hs.a.1 hs.a.2 hs.x.1 hs.x.2 _).mono ?_
  rintro e w4 ⟨rfl, hb⟩
  have hA4 := hA3.below hb
  have hS4 := hS3.below hb
  have hO4 := hO3.below hb
  have HB4 := stp HB3 hb
  clear hb s1 s2 s3 s4 s5 a0 a1 a2 a3 hA3 hS3 hO3 HB3
  obtain ⟨s1, s2, s3, s4, s5⟩ := hS4.cells
  obtain ⟨a0, a1, a2, a3, _⟩ := hA4.cells
  simp only at s1 s2 s3 s4 s5
  have g0 := hS4.frozen (1)
  have S0 := hS4.setA (WM.val (c / 16 % 16 * 16) s.a s.x)
  have O0 : St (w4.setCell ⟨w.heap.size + 1, 1, none⟩ (.int .u32 (WM.val (c / 16 % 16 * 16) s.a s.x))) (w.heap.size + 1 + 1) 33 M.s0 := ⟨by rw [Below.heap_setCell _ _ _ _ (show w.heap.size + 1 + 1 ≠ w.heap.size + 1 by omega)]; exact hO4.1, hO4.2⟩
  have H0 := hid (HB4.out.setCell (p := ⟨w.heap.size + 1, 1, none⟩) (by simp) (.int .u32 (WM.val (c / 16 % 16 * 16) s.a s.x)))
  have Q0 := hA4.off (b' := w.heap.size + 1) (j := 1) (v := .int .u32 (WM.val (c / 16 % 16 * 16) s.a s.x)) hne
  obtain ⟨V0, v0⟩ : ∃ V, w4.setCell ⟨w.heap.size + 1, 1, none⟩ (.int .u32 (WM.val (c / 16 % 16 * 16) s.a s.x)) = V := ⟨_, rfl⟩
  rw [v0] at S0 O0 H0 Q0
  obtain ⟨d00, d01, d02, d03, _⟩ := Q0.cells
  obtain ⟨c01, c02, c03, c04, c05⟩ := S0.cells
  simp only at S0 c01 c02 c03 c04 c05
  have g1 := S0.frozen (1)
  have S1 := S0.setA 0
  have O1 : St (V0.setCell ⟨w.heap.size + 1, 1, none⟩ (.int .u32 0)) (w.heap.size + 1 + 1) 33 M.s0 := ⟨by rw [Below.heap_setCell _ _ _ _ (show w.heap.size + 1 + 1 ≠ w.heap.size + 1 by omega)]; exact O0.1, O0.2⟩
  have H1 := hid (H0.out.setCell (p := ⟨w.heap.size + 1, 1, none⟩) (by simp) (.int .u32 0))
  have Q1 := Q0.off (b' := w.heap.size + 1) (j := 1) (v := .int .u32 0) hne
  obtain ⟨V1, v1⟩ : ∃ V, V0.setCell ⟨w.heap.size + 1, 1, none⟩ (.int .u32 0) = V := ⟨_, rfl⟩
  rw [v1] at S1 O1 H1 Q1
  obtain ⟨d10, d11, d12, d13, _⟩ := Q1.cells
  obtain ⟨c11, c12, c13, c14, c15⟩ := S1.cells
  simp only at S1 c11 c12 c13 c14 c15
  have g2 := S1.frozen (0)
  have S2 := S1.setPc (p : Int)
  have O2 : St (V1.setCell ⟨w.heap.size + 1, 0, none⟩ (.int .i64 (p : Int))) (w.heap.size + 1 + 1) 33 M.s0 := ⟨by rw [Below.heap_setCell _ _ _ _ (show w.heap.size + 1 + 1 ≠ w.heap.size + 1 by omega)]; exact O1.1, O1.2⟩
  have H2 := hid (H1.out.setCell (p := ⟨w.heap.size + 1, 0, none⟩) (by simp) (.int .i64 (p : Int)))
  have Q2 := Q1.off (b' := w.heap.size + 1) (j := 0) (v := .int .i64 (p : Int)) hne
  obtain ⟨V2, v2⟩ : ∃ V, V1.setCell ⟨w.heap.size + 1, 0, none⟩ (.int .i64 (p : Int)) = V := ⟨_, rfl⟩
  rw [v2] at S2 O2 H2 Q2
  obtain ⟨d20, d21, d22, d23, _⟩ := Q2.cells
  obtain ⟨c21, c22, c23, c24, c25⟩ := S2.cells
  simp only at S2 c21 c22 c23 c24 c25
  have g3 := S2.frozen (19)
  have S3 := S2.setEn true
  have O3 : St (V2.setCell ⟨w.heap.size + 1, 19, none⟩ (.bool true)) (w.heap.size + 1 + 1) 33 M.s0 := ⟨by rw [Below.heap_setCell _ _ _ _ (show w.heap.size + 1 + 1 ≠ w.heap.size + 1 by omega)]; exact O2.1, O2.2⟩
  have H3 := hid (H2.out.setCell (p := ⟨w.heap.size + 1, 19, none⟩) (by simp) (.bool true))
  have Q3 := Q2.off (b' := w.heap.size + 1) (j := 19) (v := .bool true) hne
  obtain ⟨V3, v3⟩ : ∃ V, V2.setCell ⟨w.heap.size + 1, 19, none⟩ (.bool true) = V := ⟨_, rfl⟩
  rw [v3] at S3 O3 H3 Q3
  obtain ⟨d30, d31, d32, d33, _⟩ := Q3.cells
  obtain ⟨c31, c32, c33, c34, c35⟩ := S3.cells
  simp only at S3 c31 c32 c33 c34 c35
  have g4 := S3.frozen (20)
  have S4 := S3.setAn 0
  have O4 : St (V3.setCell ⟨w.heap.size + 1, 20, none⟩ (.int .u32 0)) (w.heap.size + 1 + 1) 33 M.s0 := ⟨by rw [Below.heap_setCell _ _ _ _ (show w.heap.size + 1 + 1 ≠ w.heap.size + 1 by omega)]; exact O3.1, O3.2⟩
  have H4 := hid (H3.out.setCell (p := ⟨w.heap.size + 1, 20, none⟩) (by simp) (.int .u32 0))
  have Q4 := Q3.off (b' := w.heap.size + 1) (j := 20) (v := .int .u32 0) hne
  obtain ⟨V4, v4⟩ : ∃ V, V3.setCell ⟨w.heap.size + 1, 20, none⟩ (.int .u32 0) = V := ⟨_, rfl⟩
  rw [v4] at S4 O4 H4 Q4
  obtain ⟨d40, d41, d42, d43, _⟩ := Q4.cells
  obtain ⟨c41, c42, c43, c44, c45⟩ := S4.cells
  simp only at S4 c41 c42 c43 c44 c45
  have hld := S4.load
  have hsz2 := encS_size S4.2
  obtain ⟨W5, hst, hR5, _, _, hB5⟩ := O4.store S4.2
  have HB5 := hid (hB5 w.heap.size w (by omega) H4.out)
  have HR5 := hid hR5
  clear hB5 hR5
  go_wp2
  refine bodyPost_ret (v := .agg (encS (M.stepI (c, t, f, k) r s))) ?_ rfl ⟨rfl, HB5.out⟩
  rw [HF.out]
  refine results_st Try.results13 _ rfl ?_
  have := HR5.out
  rw [← hp] at this
  exact this

set_option maxHeartbeats 3200000 in
set_option maxRecDepth 1000000 in
theorem rs12xy (b o n cap p : Nat) (c : Int) (t f k : Nat) (r : List Int) (s : M.S) (hn : n ≤ 65536) (hp : s.pc = p) (hpn : p < n) (ok : M.okI (c, t, f, k)) (hr : R.okR r) (hs : M.okS s) (w : World) (hl : LiesAt w b o p (c, t, f, k)) (hkd : M.kind c = 12) (hbx : c / 8 % 2 = 1) (hok : WM.ask (c / 16 % 16 * 16) s.a s.x = true) :
    Calls Try.prog 13 #[.slice (some ⟨b, o, none⟩) n cap, .agg (RB.enc r), .agg (encS s)] w fun e w' => e = .returned (.agg (encS (M.stepI (c, t, f, k) r s))) ∧ Below w.heap.size w w' := by
  have hoth : M.oth (c, t, f, k) s = s.x := by unfold M.oth; simp [hbx]
  have HF : Hid (M.stepI (c, t, f, k) r s = _) := (by rw [M.st12 hkd, hoth]; show M.S.mk (s.pc + 1 + (if WM.ask (c / 16 % 16 * 16) s.a s.x = true then (t : Int) else f)) _ _ _ _ _ = _; rw [hok])
  have hdx : M.rdX c = true := by unfold M.rdX; rw [hkd]; simp [hbx]
  obtain ⟨p0, p1, p2, p3⟩ := hl
  simp only at p0 p1 p2 p3
  have i1 : (p : Int) < (n : Int) := by omega
  have hbk := hid ok.1
  have b0 : 0 ≤ c ∧ c < 65536 := ok.1
  have b1 : 0 ≤ (t : Int) ∧ (t : Int) < 256 := ok.2.1
  have b2 : 0 ≤ (f : Int) ∧ (f : Int) < 256 := ok.2.2.1
  have b3 : 0 ≤ (k : Int) ∧ (k : Int) < 4294967296 := ok.2.2.2
  have hX := RB.lcf_eq
  have hz := s0_lit
  obtain ⟨W, hW⟩ : ∃ W, ((w.alloc (.cells (RB.enc r) 25)).alloc (.cells (encS s) 33)).alloc (.cells (encS M.s0) 33) = W := ⟨_, rfl⟩
  have hB0 : Below w.heap.size w W := by rw [← hW]; exact (((Below.refl _ w).alloc (Nat.le_refl _) _).alloc (by simp) _).alloc (by simp; omega) _
  have hS : St W (w.heap.size + 1) 33 s := by
    rw [← hW]
    have := (St.new (w.alloc (.cells (RB.enc r) 25)) 33 s hs.m.1).alloc (.cells (encS M.s0) 33)
    simpa using this
  have hO : St W (w.heap.size + 1 + 1) 33 M.s0 := by
    rw [← hW]
    have := St.new ((w.alloc (.cells (RB.enc r) 25)).alloc (.cells (encS s) 33)) 33 M.s0 rfl
    simpa using this
  obtain ⟨s1, s2, s3, s4, s5⟩ := hS.cells
  rw [hp] at s1
  have hbl : b < w.heap.size := World.block_lt_of_cell? w ⟨b, o + p * 4, none⟩ p0
  have q0 := (hB0.cell (p := ⟨b, o + p * 4, none⟩) hbl).trans p0
  have q1 := (hB0.cell (p := ⟨b, o + p * 4 + 1, none⟩) hbl).trans p1
  have q2 := (hB0.cell (p := ⟨b, o + p * 4 + 2, none⟩) hbl).trans p2
  have q3 := (hB0.cell (p := ⟨b, o + p * 4 + 3, none⟩) hbl).trans p3
  have hA := At.new W c t f k
  have HB := stp (hid hB0) (al W (.cells #[.int .u16 c, .int .u8 t, .int .u8 f, .int .u32 k] 51))
  have hne : W.heap.size ≠ w.heap.size + 1 := by have := hO.lt; omega
  have hne2 : W.heap.size ≠ w.heap.size + 1 + 1 := by have := hO.lt; omega
  clear p0 p1 p2 p3 hbl hB0
  go_enter Try.func13, Try.ntmps13
  go_wp2_with fail
  refine (rrdX_any _ hbk.out.1 hbk.out.2 _).mono ?_
  rintro e w1 ⟨rfl, hb⟩
  have hA1 := hA.below hb
  have hS1 := (hS.alloc _).below hb
  have hO1 := (hO.alloc _).below hb
  replace HB := stp HB hb
  clear hb hA hS hO s1 s2 s3 s4 s5 q0 q1 q2 q3 hW
  obtain ⟨s1, s2, s3, s4, s5⟩ := hS1.cells
  rw [hp] at s1
  obtain ⟨a0, a1, a2, a3, _⟩ := hA1.cells
  have f0 := hS1.frozen 0
  have hS2 := hS1.setPc ((p : Int) + 1)
  have hO2 : St (w1.setCell ⟨w.heap.size + 1, 0, none⟩ (.int .i64 ((p : Int) + 1))) (w.heap.size + 1 + 1) 33 M.s0 := ⟨by rw [Below.heap_setCell _ _ _ _ (show w.heap.size + 1 + 1 ≠ w.heap.size + 1 by omega)]; exact hO1.1, hO1.2⟩
  have hA2 := hA1.off (b' := w.heap.size + 1) (j := 0) (v := .int .i64 ((p : Int) + 1)) hne
  have HB2 := hid (HB.out.setCell (p := ⟨w.heap.size + 1, 0, none⟩) (by simp) (.int .i64 ((p : Int) + 1)))
  obtain ⟨W2, hW2⟩ : ∃ W2, w1.setCell ⟨w.heap.size + 1, 0, none⟩ (.int .i64 ((p : Int) + 1)) = W2 := ⟨_, rfl⟩
  rw [hW2] at hS2 hO2 hA2 HB2
  obtain ⟨x1, x2, x3, x4, x5⟩ := hS2.cells
  obtain ⟨y0, y1, y2, y3, _⟩ := hA2.cells
  clear hS1 hO1 hA1 HB
  go_wp2_with fail
  refine (rkind_any _ hbk.out.1 hbk.out.2 _).mono ?_
  rintro e w3 ⟨rfl, hb⟩
  rw [hkd]
  have hA3 := hA2.below hb
  have hS3 := hS2.below hb
  have hO3 := hO2.below hb
  have HB3 := stp HB2 hb
  clear hb hW2 s1 s2 s3 s4 s5 a0 a1 a2 a3 f0 x1 x2 x3 x4 x5 y0 y1 y2 y3 hA2 hS2 hO2 HB2
  obtain ⟨s1, s2, s3, s4, s5⟩ := hS3.cells
  obtain ⟨a0, a1, a2, a3, _⟩ := hA3.cells
  simp only at s1 s2 s3 s4 s5
  go_wp2_with fail
  refine (WB.rask_any (c / 16 % 16 * 16) s.a s.x hs.a.1 hs.a.2 hs.x.1 hs.x.2 _).mono ?_
  rintro e w4 ⟨rfl, hb⟩
  have hA4 := hA3.below hb
  have hS4 := hS3.below hb
  have hO4 := hO3.below hb
  have HB4 := stp HB3 hb
  clear hb s1 s2 s3 s4 s5 a0 a1 a2 a3 hA3 hS3 hO3 HB3
  obtain ⟨s1, s2, s3, s4, s5⟩ := hS4.cells
  obtain ⟨a0, a1, a2, a3, _⟩ := hA4.cells
  simp only at s1 s2 s3 s4 s5
  have g0 := hS4.frozen (0)
  have S0 := hS4.setPc ((p : Int) + 1 + (t : Int))
  have O0 : St (w4.setCell ⟨w.heap.size + 1, 0, none⟩ (.int .i64 ((p : Int) + 1 + (t : Int)))) (w.heap.size + 1 + 1) 33 M.s0 := ⟨by rw [Below.heap_setCell _ _ _ _ (show w.heap.size + 1 + 1 ≠ w.heap.size + 1 by omega)]; exact hO4.1, hO4.2⟩
  have H0 := hid (HB4.out.setCell (p := ⟨w.heap.size + 1, 0, none⟩) (by simp) (.int .i64 ((p : Int) + 1 + (t : Int))))
  have Q0 := hA4.off (b' := w.heap.size + 1) (j := 0) (v := .int .i64 ((p : Int) + 1 + (t : Int))) hne
  obtain ⟨V0, v0⟩ : ∃ V, w4.setCell ⟨w.heap.size + 1, 0, none⟩ (.int .i64 ((p : Int) + 1 + (t : Int))) = V := ⟨_, rfl⟩
  rw [v0] at S0 O0 H0 Q0
  obtain ⟨d00, d01, d02, d03, _⟩ := Q0.cells
  obtain ⟨c01, c02, c03, c04, c05⟩ := S0.cells
  simp only at S0 c01 c02 c03 c04 c05
  have hld := S0.load
  have hsz2 := encS_size S0.2
  obtain ⟨W5, hst, hR5, _, _, hB5⟩ := O0.store S0.2
  have HB5 := hid (hB5 w.heap.size w (by omega) H0.out)
  have HR5 := hid hR5
  clear hB5 hR5
  go_wp2
  refine bodyPost_ret (v := .agg (encS (M.stepI (c, t, f, k) r s))) ?_ rfl ⟨rfl, HB5.out⟩
  rw [HF.out]
  refine results_st Try.results13 _ rfl ?_
  have := HR5.out
  rw [← hp] at this
  exact this

set_option maxHeartbeats 3200000 in
set_option maxRecDepth 1000000 in
theorem rs12xn (b o n cap p : Nat) (c : Int) (t f k : Nat) (r : List Int) (s : M.S) (hn : n ≤ 65536) (hp : s.pc = p) (hpn : p < n) (ok : M.okI (c, t, f, k)) (hr : R.okR r) (hs : M.okS s) (w : World) (hl : LiesAt w b o p (c, t, f, k)) (hkd : M.kind c = 12) (hbx : c / 8 % 2 = 1) (hok : WM.ask (c / 16 % 16 * 16) s.a s.x = false) :
    Calls Try.prog 13 #[.slice (some ⟨b, o, none⟩) n cap, .agg (RB.enc r), .agg (encS s)] w fun e w' => e = .returned (.agg (encS (M.stepI (c, t, f, k) r s))) ∧ Below w.heap.size w w' := by
  have hoth : M.oth (c, t, f, k) s = s.x := by unfold M.oth; simp [hbx]
  have HF : Hid (M.stepI (c, t, f, k) r s = _) := (by rw [M.st12 hkd, hoth]; show M.S.mk (s.pc + 1 + (if WM.ask (c / 16 % 16 * 16) s.a s.x = true then (t : Int) else f)) _ _ _ _ _ = _; rw [hok])
  have hdx : M.rdX c = true := by unfold M.rdX; rw [hkd]; simp [hbx]
  obtain ⟨p0, p1, p2, p3⟩ := hl
  simp only at p0 p1 p2 p3
  have i1 : (p : Int) < (n : Int) := by omega
  have hbk := hid ok.1
  have b0 : 0 ≤ c ∧ c < 65536 := ok.1
  have b1 : 0 ≤ (t : Int) ∧ (t : Int) < 256 := ok.2.1
  have b2 : 0 ≤ (f : Int) ∧ (f : Int) < 256 := ok.2.2.1
  have b3 : 0 ≤ (k : Int) ∧ (k : Int) < 4294967296 := ok.2.2.2
  have hX := RB.lcf_eq
  have hz := s0_lit
  obtain ⟨W, hW⟩ : ∃ W, ((w.alloc (.cells (RB.enc r) 25)).alloc (.cells (encS s) 33)).alloc (.cells (encS M.s0) 33) = W := ⟨_, rfl⟩
  have hB0 : Below w.heap.size w W := by rw [← hW]; exact (((Below.refl _ w).alloc (Nat.le_refl _) _).alloc (by simp) _).alloc (by simp; omega) _
  have hS : St W (w.heap.size + 1) 33 s := by
    rw [← hW]
    have := (St.new (w.alloc (.cells (RB.enc r) 25)) 33 s hs.m.1).alloc (.cells (encS M.s0) 33)
    simpa using this
  have hO : St W (w.heap.size + 1 + 1) 33 M.s0 := by
    rw [← hW]
    have := St.new ((w.alloc (.cells (RB.enc r) 25)).alloc (.cells (encS s) 33)) 33 M.s0 rfl
    simpa using this
  obtain ⟨s1, s2, s3, s4, s5⟩ := hS.cells
  rw [hp] at s1
  have hbl : b < w.heap.size := World.block_lt_of_cell? w ⟨b, o + p * 4, none⟩ p0
  have q0 := (hB0.cell (p := ⟨b, o + p * 4, none⟩) hbl).trans p0
  have q1 := (hB0.cell (p := ⟨b, o + p * 4 + 1, none⟩) hbl).trans p1
  have q2 := (hB0.cell (p := ⟨b, o + p * 4 + 2, none⟩) hbl).trans p2
  have q3 := (hB0.cell (p := ⟨b, o + p * 4 + 3, none⟩) hbl).trans p3
  have hA := At.new W c t f k
  have HB := stp (hid hB0) (al W (.cells #[.int .u16 c, .int .u8 t, .int .u8 f, .int .u32 k] 51))
  have hne : W.heap.size ≠ w.heap.size + 1 := by have := hO.lt; omega
  have hne2 : W.heap.size ≠ w.heap.size + 1 + 1 := by have := hO.lt; omega
  clear p0 p1 p2 p3 hbl hB0
  go_enter Try.func13, Try.ntmps13
  go_wp2_with fail
  refine (rrdX_any _ hbk.out.1 hbk.out.2 _).mono ?_
  rintro e w1 ⟨rfl, hb⟩
  have hA1 := hA.below hb
  have hS1 := (hS.alloc _).below hb
  have hO1 := (hO.alloc _).below hb
  replace HB := stp HB hb
  clear hb hA hS hO s1 s2 s3 s4 s5 q0 q1 q2 q3 hW
  obtain ⟨s1, s2, s3, s4, s5⟩ := hS1.cells
  rw [hp] at s1
  obtain ⟨a0, a1, a2, a3, _⟩ := hA1.cells
  have f0 := hS1.frozen 0
  have hS2 := hS1.setPc ((p : Int) + 1)
  have hO2 : St (w1.setCell ⟨w.heap.size + 1, 0, none⟩ (.int .i64 ((p : Int) + 1))) (w.heap.size + 1 + 1) 33 M.s0 := ⟨by rw [Below.heap_setCell _ _ _ _ (show w.heap.size + 1 + 1 ≠ w.heap.size + 1 by omega)]; exact hO1.1, hO1.2⟩
  have hA2 := hA1.off (b' := w.heap.size + 1) (j := 0) (v := .int .i64 ((p : Int) + 1)) hne
  have HB2 := hid (HB.out.setCell (p := ⟨w.heap.size + 1, 0, none⟩) (by simp) (.int .i64 ((p : Int) + 1)))
  obtain ⟨W2, hW2⟩ : ∃ W2, w1.setCell ⟨w.heap.size + 1, 0, none⟩ (.int .i64 ((p : Int) + 1)) = W2 := ⟨_, rfl⟩
  rw [hW2] at hS2 hO2 hA2 HB2
  obtain ⟨x1, x2, x3, x4, x5⟩ := hS2.cells
  obtain ⟨y0, y1, y2, y3, _⟩ := hA2.cells
  clear hS1 hO1 hA1 HB
  go_wp2_with fail
  refine (rkind_any _ hbk.out.1 hbk.out.2 _).mono ?_
  rintro e w3 ⟨rfl, hb⟩
  rw [hkd]
  have hA3 := hA2.below hb
  have hS3 := hS2.below hb
  have hO3 := hO2.below hb
  have HB3 := stp HB2 hb
  clear hb hW2 s1 s2 s3 s4 s5 a0 a1 a2 a3 f0 x1 x2 x3 x4 x5 y0 y1 y2 y3 hA2 hS2 hO2 HB2
  obtain ⟨s1, s2, s3, s4, s5⟩ := hS3.cells
  obtain ⟨a0, a1, a2, a3, _⟩ := hA3.cells
  simp only at s1 s2 s3 s4 s5
  go_wp2_with fail
  refine (WB.rask_any (c / 16 % 16 * 16) s.a s.x hs.a.1 hs.a.2 hs.x.1 hs.x.2 _).mono ?_
  rintro e w4 ⟨rfl, hb⟩
  have hA4 := hA3.below hb
  have hS4 := hS3.below hb
  have hO4 := hO3.below hb
  have HB4 := stp HB3 hb
  clear hb s1 s2 s3 s4 s5 a0 a1 a2 a3 hA3 hS3 hO3 HB3
  obtain ⟨s1, s2, s3, s4, s5⟩ := hS4.cells
  obtain ⟨a0, a1, a2, a3, _⟩ := hA4.cells
  simp only at s1 s2 s3 s4 s5
  have g0 := hS4.frozen (0)
  have S0 := hS4.setPc ((p : Int) + 1 + (f : Int))
  have O0 : St (w4.setCell ⟨w.heap.size + 1, 0, none⟩ (.int .i64 ((p : Int) + 1 + (f : Int)))) (w.heap.size + 1 + 1) 33 M.s0 := ⟨by rw [Below.heap_setCell _ _ _ _ (show w.heap.size + 1 + 1 ≠ w.heap.size + 1 by omega)]; exact hO4.1, hO4.2⟩
  have H0 := hid (HB4.out.setCell (p := ⟨w.heap.size + 1, 0, none⟩) (by simp) (.int .i64 ((p : Int) + 1 + (f : Int))))
  have Q0 := hA4.off (b' := w.heap.size + 1) (j := 0) (v := .int .i64 ((p : Int) + 1 + (f : Int))) hne
  obtain ⟨V0, v0⟩ : ∃ V, w4.setCell ⟨w.heap.size + 1, 0, none⟩ (.int .i64 ((p : Int) + 1 + (f : Int))) = V := ⟨_, rfl⟩
  rw [v0] at S0 O0 H0 Q0
  obtain ⟨d00, d01, d02, d03, _⟩ := Q0.cells
  obtain ⟨c01, c02, c03, c04, c05⟩ := S0.cells
  simp only at S0 c01 c02 c03 c04 c05
  have hld := S0.load
  have hsz2 := encS_size S0.2
  obtain ⟨W5, hst, hR5, _, _, hB5⟩ := O0.store S0.2
  have HB5 := hid (hB5 w.heap.size w (by omega) H0.out)
  have HR5 := hid hR5
  clear hB5 hR5
  go_wp2
  refine bodyPost_ret (v := .agg (encS (M.stepI (c, t, f, k) r s))) ?_ rfl ⟨rfl, HB5.out⟩
  rw [HF.out]
  refine results_st Try.results13 _ rfl ?_
  have := HR5.out
  rw [← hp] at this
  exact this
end Go.Proofs.Ytejolpbdpcllkaa.B
