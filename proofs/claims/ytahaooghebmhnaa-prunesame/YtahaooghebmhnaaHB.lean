/-
  The state behind an instruction, as walks over the Go text: a theorem a kind.
-/
import Derived.Test.YtahaooghebmhnaaHA
import Derived.Deep.RegionLaw
namespace Go.Proofs.Ytahaooghebmhnaa.B
open Go.ChangeShapes Go.WideShapes Go.ChangeAt Go.RowKit
open Go.Sort hiding Below
set_option linter.unusedVariables false

set_option maxHeartbeats 3200000 in
set_option maxRecDepth 1000000 in
theorem bh13 (c t f : Int) (k : Nat) (ok : M.okI (c, t, f, k)) (r : List Int) (hr : R.okR r) (s : M.S) (hs : M.okS s) (p : Nat) (hp : s.pc = p) (hpn : p ≤ 65536) (hkd : M.kind c = 13) (w : World) :
    Calls Try.prog 33 #[.agg #[.int .u16 c, .int .u8 t, .int .u8 f, .int .u32 (k : Int)], .agg (RB.enc r), .agg (encS s)] w fun e w' => e = .returned (.agg (encS (M.stepI (c, t, f, k) r s))) ∧ Below w.heap.size w w' := by
  have hX := RB.lcf_eq
  have hz := s0_lit
  have b3 : 0 ≤ (k : Int) ∧ (k : Int) < 4294967296 := ok.2.2.2
  obtain ⟨W, hW⟩ : ∃ W, (((w.alloc (.cells #[.int .u16 c, .int .u8 t, .int .u8 f, .int .u32 (k : Int)] 46)).alloc (.cells (RB.enc r) 36)).alloc (.cells (encS s) 53)).alloc (.cells (encS M.s0) 53) = W := ⟨_, rfl⟩
  have HB : Hid (Below w.heap.size w W) := by rw [← hW]; exact hid ((((Below.refl _ w).alloc (Nat.le_refl _) _).alloc (by simp) _).alloc (by simp; omega) _ |>.alloc (by simp; omega) _)
  have hA : At W (w.heap.size) c t f k := by rw [← hW]; exact (((At.new w c t f k).alloc _).alloc _).alloc _
  have hRc : RB.Rec W (w.heap.size + 1) r := by
    rw [← hW]
    have := ((RB.Rec.new (w.alloc (.cells #[.int .u16 c, .int .u8 t, .int .u8 f, .int .u32 (k : Int)] 46)) r hr.1).alloc (.cells (encS s) 53)).alloc (.cells (encS M.s0) 53)
    simpa using this
  have hS : St W (w.heap.size + 1 + 1) 53 s := by
    rw [← hW]
    have := (St.new ((w.alloc (.cells #[.int .u16 c, .int .u8 t, .int .u8 f, .int .u32 (k : Int)] 46)).alloc (.cells (RB.enc r) 36)) 53 s hs.m.1).alloc (.cells (encS M.s0) 53)
    simpa using this
  have hO : St W (w.heap.size + 1 + 1 + 1) 53 M.s0 := by
    rw [← hW]
    have := St.new (((w.alloc (.cells #[.int .u16 c, .int .u8 t, .int .u8 f, .int .u32 (k : Int)] 46)).alloc (.cells (RB.enc r) 36)).alloc (.cells (encS s) 53)) 53 M.s0 rfl
    simpa using this
  obtain ⟨a0, a1, a2, a3, _⟩ := hA.cells
  obtain ⟨s1, s2, s3, s4, s5⟩ := hS.cells
  have hl21 := hS.load
  have hl16 := hRc.load
  have hl4 := hA.load
  have hsz21 := encS_size hs.m.1
  have hsz16 := RB.enc_size hr.1
  have HV : M.stepI (c, t, f, k) r s = { s with en := true, an := (k : Int) } := M.st13 hkd
  have HC := hid (fun w => ended_any s (k : Int) hs.m.1 w)
  obtain ⟨u, hu⟩ : ∃ u : M.S, { s with en := true, an := (k : Int) } = u := ⟨_, rfl⟩
  have hlu : u.m.length = 16 := by rw [← hu]; exact hs.m.1
  rw [hu] at HC
  rw [HV, hu]
  clear hp HV hu
  go_enter Try.func33, Try.ntmps33
  go_wp2_with fail
  refine (kind_any _ _).mono ?_
  rintro e w1 ⟨rfl, rfl⟩
  rw [hkd]
  go_wp2_with fail
  refine (HC.out _).mono ?_
  rintro e w2 ⟨rfl, hb⟩
  have hszu := encS_size hlu
  obtain ⟨W5, hst, hR5, _, _, hB5⟩ := (hO.below hb).storeK hlu
  have HB5 := hid (hB5 w.heap.size w (by omega) (stp HB hb).out)
  have HR5 := hid hR5
  clear hB5 hR5 hb hS hO HB hA hRc hW hl21 hl16 hl4 a0 a1 a2 a3 s1 s2 s3 s4 s5
  go_wp2
  refine bodyPost_ret (v := .agg (encS u)) ?_ rfl ⟨rfl, HB5.out⟩
  exact results_stK Try.results33 _ rfl HR5.out

set_option maxHeartbeats 3200000 in
set_option maxRecDepth 1000000 in
theorem bh14 (c t f : Int) (k : Nat) (ok : M.okI (c, t, f, k)) (r : List Int) (hr : R.okR r) (s : M.S) (hs : M.okS s) (p : Nat) (hp : s.pc = p) (hpn : p ≤ 65536) (hkd : M.kind c = 14) (w : World) :
    Calls Try.prog 33 #[.agg #[.int .u16 c, .int .u8 t, .int .u8 f, .int .u32 (k : Int)], .agg (RB.enc r), .agg (encS s)] w fun e w' => e = .returned (.agg (encS (M.stepI (c, t, f, k) r s))) ∧ Below w.heap.size w w' := by
  have hX := RB.lcf_eq
  have hz := s0_lit
  have b3 : 0 ≤ (k : Int) ∧ (k : Int) < 4294967296 := ok.2.2.2
  obtain ⟨W, hW⟩ : ∃ W, (((w.alloc (.cells #[.int .u16 c, .int .u8 t, .int .u8 f, .int .u32 (k : Int)] 46)).alloc (.cells (RB.enc r) 36)).alloc (.cells (encS s) 53)).alloc (.cells (encS M.s0) 53) = W := ⟨_, rfl⟩
  have HB : Hid (Below w.heap.size w W) := by rw [← hW]; exact hid ((((Below.refl _ w).alloc (Nat.le_refl _) _).alloc (by simp) _).alloc (by simp; omega) _ |>.alloc (by simp; omega) _)
  have hA : At W (w.heap.size) c t f k := by rw [← hW]; exact (((At.new w c t f k).alloc _).alloc _).alloc _
  have hRc : RB.Rec W (w.heap.size + 1) r := by
    rw [← hW]
    have := ((RB.Rec.new (w.alloc (.cells #[.int .u16 c, .int .u8 t, .int .u8 f, .int .u32 (k : Int)] 46)) r hr.1).alloc (.cells (encS s) 53)).alloc (.cells (encS M.s0) 53)
    simpa using this
  have hS : St W (w.heap.size + 1 + 1) 53 s := by
    rw [← hW]
    have := (St.new ((w.alloc (.cells #[.int .u16 c, .int .u8 t, .int .u8 f, .int .u32 (k : Int)] 46)).alloc (.cells (RB.enc r) 36)) 53 s hs.m.1).alloc (.cells (encS M.s0) 53)
    simpa using this
  have hO : St W (w.heap.size + 1 + 1 + 1) 53 M.s0 := by
    rw [← hW]
    have := St.new (((w.alloc (.cells #[.int .u16 c, .int .u8 t, .int .u8 f, .int .u32 (k : Int)] 46)).alloc (.cells (RB.enc r) 36)).alloc (.cells (encS s) 53)) 53 M.s0 rfl
    simpa using this
  obtain ⟨a0, a1, a2, a3, _⟩ := hA.cells
  obtain ⟨s1, s2, s3, s4, s5⟩ := hS.cells
  have hl21 := hS.load
  have hl16 := hRc.load
  have hl4 := hA.load
  have hsz21 := encS_size hs.m.1
  have hsz16 := RB.enc_size hr.1
  have HV : M.stepI (c, t, f, k) r s = { s with en := true, an := s.a } := M.st14 hkd
  have HC := hid (fun w => ended_any s s.a hs.m.1 w)
  obtain ⟨u, hu⟩ : ∃ u : M.S, { s with en := true, an := s.a } = u := ⟨_, rfl⟩
  have hlu : u.m.length = 16 := by rw [← hu]; exact hs.m.1
  rw [hu] at HC
  rw [HV, hu]
  clear hp HV hu
  go_enter Try.func33, Try.ntmps33
  go_wp2_with fail
  refine (kind_any _ _).mono ?_
  rintro e w1 ⟨rfl, rfl⟩
  rw [hkd]
  go_wp2_with fail
  refine (HC.out _).mono ?_
  rintro e w2 ⟨rfl, hb⟩
  have hszu := encS_size hlu
  obtain ⟨W5, hst, hR5, _, _, hB5⟩ := (hO.below hb).storeK hlu
  have HB5 := hid (hB5 w.heap.size w (by omega) (stp HB hb).out)
  have HR5 := hid hR5
  clear hB5 hR5 hb hS hO HB hA hRc hW hl21 hl16 hl4 a0 a1 a2 a3 s1 s2 s3 s4 s5
  go_wp2
  refine bodyPost_ret (v := .agg (encS u)) ?_ rfl ⟨rfl, HB5.out⟩
  exact results_stK Try.results33 _ rfl HR5.out

set_option maxHeartbeats 3200000 in
set_option maxRecDepth 1000000 in
theorem bh10 (c t f : Int) (k : Nat) (ok : M.okI (c, t, f, k)) (r : List Int) (hr : R.okR r) (s : M.S) (hs : M.okS s) (p : Nat) (hp : s.pc = p) (hpn : p ≤ 65536) (hkd : M.kind c = 10) (hq : WM.ok (M.opI (c, t, f, k)) (M.oth (c, t, f, k) s) = true) (w : World) :
    Calls Try.prog 33 #[.agg #[.int .u16 c, .int .u8 t, .int .u8 f, .int .u32 (k : Int)], .agg (RB.enc r), .agg (encS s)] w fun e w' => e = .returned (.agg (encS (M.stepI (c, t, f, k) r s))) ∧ Below w.heap.size w w' := by
  have hX := RB.lcf_eq
  have hz := s0_lit
  have b3 : 0 ≤ (k : Int) ∧ (k : Int) < 4294967296 := ok.2.2.2
  obtain ⟨W, hW⟩ : ∃ W, (((w.alloc (.cells #[.int .u16 c, .int .u8 t, .int .u8 f, .int .u32 (k : Int)] 46)).alloc (.cells (RB.enc r) 36)).alloc (.cells (encS s) 53)).alloc (.cells (encS M.s0) 53) = W := ⟨_, rfl⟩
  have HB : Hid (Below w.heap.size w W) := by rw [← hW]; exact hid ((((Below.refl _ w).alloc (Nat.le_refl _) _).alloc (by simp) _).alloc (by simp; omega) _ |>.alloc (by simp; omega) _)
  have hA : At W (w.heap.size) c t f k := by rw [← hW]; exact (((At.new w c t f k).alloc _).alloc _).alloc _
  have hRc : RB.Rec W (w.heap.size + 1) r := by
    rw [← hW]
    have := ((RB.Rec.new (w.alloc (.cells #[.int .u16 c, .int .u8 t, .int .u8 f, .int .u32 (k : Int)] 46)) r hr.1).alloc (.cells (encS s) 53)).alloc (.cells (encS M.s0) 53)
    simpa using this
  have hS : St W (w.heap.size + 1 + 1) 53 s := by
    rw [← hW]
    have := (St.new ((w.alloc (.cells #[.int .u16 c, .int .u8 t, .int .u8 f, .int .u32 (k : Int)] 46)).alloc (.cells (RB.enc r) 36)) 53 s hs.m.1).alloc (.cells (encS M.s0) 53)
    simpa using this
  have hO : St W (w.heap.size + 1 + 1 + 1) 53 M.s0 := by
    rw [← hW]
    have := St.new (((w.alloc (.cells #[.int .u16 c, .int .u8 t, .int .u8 f, .int .u32 (k : Int)] 46)).alloc (.cells (RB.enc r) 36)).alloc (.cells (encS s) 53)) 53 M.s0 rfl
    simpa using this
  obtain ⟨a0, a1, a2, a3, _⟩ := hA.cells
  obtain ⟨s1, s2, s3, s4, s5⟩ := hS.cells
  have hl21 := hS.load
  have hl16 := hRc.load
  have hl4 := hA.load
  have hsz21 := encS_size hs.m.1
  have hsz16 := RB.enc_size hr.1
  have HV : M.stepI (c, t, f, k) r s = { s with a := WM.val (M.opI (c, t, f, k)) s.a (M.oth (c, t, f, k) s), pc := s.pc + 1 } := by rw [M.st10 hkd, if_pos hq]
  have HC := hid (fun w => reckoned_any c t f k ok s hs p hp hpn true hq w)
  obtain ⟨u, hu⟩ : ∃ u : M.S, { s with a := WM.val (M.opI (c, t, f, k)) s.a (M.oth (c, t, f, k) s), pc := s.pc + 1 } = u := ⟨_, rfl⟩
  have hlu : u.m.length = 16 := by rw [← hu]; exact hs.m.1
  rw [cond_true, hu] at HC
  rw [HV, hu]
  clear hp HV hu
  go_enter Try.func33, Try.ntmps33
  go_wp2_with fail
  refine (kind_any _ _).mono ?_
  rintro e w1 ⟨rfl, rfl⟩
  rw [hkd]
  go_wp2_with fail
  refine (HC.out _).mono ?_
  rintro e w2 ⟨rfl, hb⟩
  have hszu := encS_size hlu
  obtain ⟨W5, hst, hR5, _, _, hB5⟩ := (hO.below hb).storeK hlu
  have HB5 := hid (hB5 w.heap.size w (by omega) (stp HB hb).out)
  have HR5 := hid hR5
  clear hB5 hR5 hb hS hO HB hA hRc hW hl21 hl16 hl4 a0 a1 a2 a3 s1 s2 s3 s4 s5
  go_wp2
  refine bodyPost_ret (v := .agg (encS u)) ?_ rfl ⟨rfl, HB5.out⟩
  exact results_stK Try.results33 _ rfl HR5.out

set_option maxHeartbeats 3200000 in
set_option maxRecDepth 1000000 in
theorem bh10z (c t f : Int) (k : Nat) (ok : M.okI (c, t, f, k)) (r : List Int) (hr : R.okR r) (s : M.S) (hs : M.okS s) (p : Nat) (hp : s.pc = p) (hpn : p ≤ 65536) (hkd : M.kind c = 10) (hq : WM.ok (M.opI (c, t, f, k)) (M.oth (c, t, f, k) s) = false) (hv0 : WM.val (M.opI (c, t, f, k)) s.a (M.oth (c, t, f, k) s) = 0) (w : World) :
    Calls Try.prog 33 #[.agg #[.int .u16 c, .int .u8 t, .int .u8 f, .int .u32 (k : Int)], .agg (RB.enc r), .agg (encS s)] w fun e w' => e = .returned (.agg (encS (M.stepI (c, t, f, k) r s))) ∧ Below w.heap.size w w' := by
  have hX := RB.lcf_eq
  have hz := s0_lit
  have b3 : 0 ≤ (k : Int) ∧ (k : Int) < 4294967296 := ok.2.2.2
  obtain ⟨W, hW⟩ : ∃ W, (((w.alloc (.cells #[.int .u16 c, .int .u8 t, .int .u8 f, .int .u32 (k : Int)] 46)).alloc (.cells (RB.enc r) 36)).alloc (.cells (encS s) 53)).alloc (.cells (encS M.s0) 53) = W := ⟨_, rfl⟩
  have HB : Hid (Below w.heap.size w W) := by rw [← hW]; exact hid ((((Below.refl _ w).alloc (Nat.le_refl _) _).alloc (by simp) _).alloc (by simp; omega) _ |>.alloc (by simp; omega) _)
  have hA : At W (w.heap.size) c t f k := by rw [← hW]; exact (((At.new w c t f k).alloc _).alloc _).alloc _
  have hRc : RB.Rec W (w.heap.size + 1) r := by
    rw [← hW]
    have := ((RB.Rec.new (w.alloc (.cells #[.int .u16 c, .int .u8 t, .int .u8 f, .int .u32 (k : Int)] 46)) r hr.1).alloc (.cells (encS s) 53)).alloc (.cells (encS M.s0) 53)
    simpa using this
  have hS : St W (w.heap.size + 1 + 1) 53 s := by
    rw [← hW]
    have := (St.new ((w.alloc (.cells #[.int .u16 c, .int .u8 t, .int .u8 f, .int .u32 (k : Int)] 46)).alloc (.cells (RB.enc r) 36)) 53 s hs.m.1).alloc (.cells (encS M.s0) 53)
    simpa using this
  have hO : St W (w.heap.size + 1 + 1 + 1) 53 M.s0 := by
    rw [← hW]
    have := St.new (((w.alloc (.cells #[.int .u16 c, .int .u8 t, .int .u8 f, .int .u32 (k : Int)] 46)).alloc (.cells (RB.enc r) 36)).alloc (.cells (encS s) 53)) 53 M.s0 rfl
    simpa using this
  obtain ⟨a0, a1, a2, a3, _⟩ := hA.cells
  obtain ⟨s1, s2, s3, s4, s5⟩ := hS.cells
  have hl21 := hS.load
  have hl16 := hRc.load
  have hl4 := hA.load
  have hsz21 := encS_size hs.m.1
  have hsz16 := RB.enc_size hr.1
  have HV : M.stepI (c, t, f, k) r s = { s with a := WM.val (M.opI (c, t, f, k)) s.a (M.oth (c, t, f, k) s), en := true, an := 0 } := by rw [M.st10 hkd, if_neg (by rw [hq]; simp), hv0]
  have HC := hid (fun w => reckoned_any c t f k ok s hs p hp hpn false hq w)
  obtain ⟨u, hu⟩ : ∃ u : M.S, { s with a := WM.val (M.opI (c, t, f, k)) s.a (M.oth (c, t, f, k) s), en := true, an := 0 } = u := ⟨_, rfl⟩
  have hlu : u.m.length = 16 := by rw [← hu]; exact hs.m.1
  rw [cond_false, hu] at HC
  rw [HV, hu]
  clear hp HV hu
  go_enter Try.func33, Try.ntmps33
  go_wp2_with fail
  refine (kind_any _ _).mono ?_
  rintro e w1 ⟨rfl, rfl⟩
  rw [hkd]
  go_wp2_with fail
  refine (HC.out _).mono ?_
  rintro e w2 ⟨rfl, hb⟩
  have hszu := encS_size hlu
  obtain ⟨W5, hst, hR5, _, _, hB5⟩ := (hO.below hb).storeK hlu
  have HB5 := hid (hB5 w.heap.size w (by omega) (stp HB hb).out)
  have HR5 := hid hR5
  clear hB5 hR5 hb hS hO HB hA hRc hW hl21 hl16 hl4 a0 a1 a2 a3 s1 s2 s3 s4 s5
  go_wp2
  refine bodyPost_ret (v := .agg (encS u)) ?_ rfl ⟨rfl, HB5.out⟩
  exact results_stK Try.results33 _ rfl HR5.out

set_option maxHeartbeats 3200000 in
set_option maxRecDepth 1000000 in
theorem bh11 (c t f : Int) (k : Nat) (ok : M.okI (c, t, f, k)) (r : List Int) (hr : R.okR r) (s : M.S) (hs : M.okS s) (p : Nat) (hp : s.pc = p) (hpn : p ≤ 65536) (hkd : M.kind c = 11) (hj : p + 1 + k ≤ 65536) (w : World) :
    Calls Try.prog 33 #[.agg #[.int .u16 c, .int .u8 t, .int .u8 f, .int .u32 (k : Int)], .agg (RB.enc r), .agg (encS s)] w fun e w' => e = .returned (.agg (encS (M.stepI (c, t, f, k) r s))) ∧ Below w.heap.size w w' := by
  have hX := RB.lcf_eq
  have hz := s0_lit
  have b3 : 0 ≤ (k : Int) ∧ (k : Int) < 4294967296 := ok.2.2.2
  obtain ⟨W, hW⟩ : ∃ W, (((w.alloc (.cells #[.int .u16 c, .int .u8 t, .int .u8 f, .int .u32 (k : Int)] 46)).alloc (.cells (RB.enc r) 36)).alloc (.cells (encS s) 53)).alloc (.cells (encS M.s0) 53) = W := ⟨_, rfl⟩
  have HB : Hid (Below w.heap.size w W) := by rw [← hW]; exact hid ((((Below.refl _ w).alloc (Nat.le_refl _) _).alloc (by simp) _).alloc (by simp; omega) _ |>.alloc (by simp; omega) _)
  have hA : At W (w.heap.size) c t f k := by rw [← hW]; exact (((At.new w c t f k).alloc _).alloc _).alloc _
  have hRc : RB.Rec W (w.heap.size + 1) r := by
    rw [← hW]
    have := ((RB.Rec.new (w.alloc (.cells #[.int .u16 c, .int .u8 t, .int .u8 f, .int .u32 (k : Int)] 46)) r hr.1).alloc (.cells (encS s) 53)).alloc (.cells (encS M.s0) 53)
    simpa using this
  have hS : St W (w.heap.size + 1 + 1) 53 s := by
    rw [← hW]
    have := (St.new ((w.alloc (.cells #[.int .u16 c, .int .u8 t, .int .u8 f, .int .u32 (k : Int)] 46)).alloc (.cells (RB.enc r) 36)) 53 s hs.m.1).alloc (.cells (encS M.s0) 53)
    simpa using this
  have hO : St W (w.heap.size + 1 + 1 + 1) 53 M.s0 := by
    rw [← hW]
    have := St.new (((w.alloc (.cells #[.int .u16 c, .int .u8 t, .int .u8 f, .int .u32 (k : Int)] 46)).alloc (.cells (RB.enc r) 36)).alloc (.cells (encS s) 53)) 53 M.s0 rfl
    simpa using this
  obtain ⟨a0, a1, a2, a3, _⟩ := hA.cells
  obtain ⟨s1, s2, s3, s4, s5⟩ := hS.cells
  have hl21 := hS.load
  have hl16 := hRc.load
  have hl4 := hA.load
  have hsz21 := encS_size hs.m.1
  have hsz16 := RB.enc_size hr.1
  have HV := hid (show M.stepI (c, t, f, k) r s = { s with pc := s.pc + 1 + (k : Int) } from M.st11 hkd)
  rw [hp] at s1
  have g0 := hS.frozen (0)
  have S0 := hS.setPc ((p : Int) + (k : Int))
  have O0 : St (W.setCell ⟨w.heap.size + 1 + 1, 0, none⟩ (.int .i64 ((p : Int) + (k : Int)))) (w.heap.size + 1 + 1 + 1) 53 M.s0 := ⟨by rw [Below.heap_setCell _ _ _ _ (show w.heap.size + 1 + 1 + 1 ≠ w.heap.size + 1 + 1 by omega)]; exact hO.1, hO.2⟩
  have H0 := hid (HB.out.setCell (p := ⟨w.heap.size + 1 + 1, 0, none⟩) (by simp; omega) (.int .i64 ((p : Int) + (k : Int))))
  obtain ⟨V0, v0⟩ : ∃ V, W.setCell ⟨w.heap.size + 1 + 1, 0, none⟩ (.int .i64 ((p : Int) + (k : Int))) = V := ⟨_, rfl⟩
  rw [v0] at S0 O0 H0
  obtain ⟨c01, c02, c03, c04, c05⟩ := S0.cells
  simp only at S0 c01 c02 c03 c04 c05
  have g1 := S0.frozen (0)
  have S1 := S0.setPc ((p : Int) + (k : Int) + 1)
  have O1 : St (V0.setCell ⟨w.heap.size + 1 + 1, 0, none⟩ (.int .i64 ((p : Int) + (k : Int) + 1))) (w.heap.size + 1 + 1 + 1) 53 M.s0 := ⟨by rw [Below.heap_setCell _ _ _ _ (show w.heap.size + 1 + 1 + 1 ≠ w.heap.size + 1 + 1 by omega)]; exact O0.1, O0.2⟩
  have H1 := hid (H0.out.setCell (p := ⟨w.heap.size + 1 + 1, 0, none⟩) (by simp; omega) (.int .i64 ((p : Int) + (k : Int) + 1)))
  obtain ⟨V1, v1⟩ : ∃ V, V0.setCell ⟨w.heap.size + 1 + 1, 0, none⟩ (.int .i64 ((p : Int) + (k : Int) + 1)) = V := ⟨_, rfl⟩
  rw [v1] at S1 O1 H1
  obtain ⟨c11, c12, c13, c14, c15⟩ := S1.cells
  simp only at S1 c11 c12 c13 c14 c15
  have hld := S1.load
  have hsz2 := encS_size S1.2
  obtain ⟨W5, hst, hR5, _, _, hB5⟩ := O1.storeK S1.2
  have HB5 := hid (hB5 w.heap.size w (by omega) H1.out)
  have HR5 := hid hR5
  clear hB5 hR5
  go_enter Try.func33, Try.ntmps33
  go_wp2_with fail
  refine (kind_any _ _).mono ?_
  rintro e w1 ⟨rfl, rfl⟩
  rw [hkd]
  go_wp2
  refine bodyPost_ret (v := .agg (encS (M.stepI (c, t, f, k) r s))) ?_ rfl ⟨rfl, HB5.out⟩
  rw [HV.out, show s.pc + 1 + (k : Int) = (p : Int) + (k : Int) + 1 by omega]
  exact results_stK Try.results33 _ rfl HR5.out

set_option maxHeartbeats 3200000 in
set_option maxRecDepth 1000000 in
theorem bh2 (c t f : Int) (k : Nat) (ok : M.okI (c, t, f, k)) (r : List Int) (hr : R.okR r) (s : M.S) (hs : M.okS s) (p : Nat) (hp : s.pc = p) (hpn : p ≤ 65536) (hkd : M.kind c = 2) (w : World) :
    Calls Try.prog 33 #[.agg #[.int .u16 c, .int .u8 t, .int .u8 f, .int .u32 (k : Int)], .agg (RB.enc r), .agg (encS s)] w fun e w' => e = .returned (.agg (encS (M.stepI (c, t, f, k) r s))) ∧ Below w.heap.size w w' := by
  have hX := RB.lcf_eq
  have hz := s0_lit
  have b3 : 0 ≤ (k : Int) ∧ (k : Int) < 4294967296 := ok.2.2.2
  obtain ⟨W, hW⟩ : ∃ W, (((w.alloc (.cells #[.int .u16 c, .int .u8 t, .int .u8 f, .int .u32 (k : Int)] 46)).alloc (.cells (RB.enc r) 36)).alloc (.cells (encS s) 53)).alloc (.cells (encS M.s0) 53) = W := ⟨_, rfl⟩
  have HB : Hid (Below w.heap.size w W) := by rw [← hW]; exact hid ((((Below.refl _ w).alloc (Nat.le_refl _) _).alloc (by simp) _).alloc (by simp; omega) _ |>.alloc (by simp; omega) _)
  have hA : At W (w.heap.size) c t f k := by rw [← hW]; exact (((At.new w c t f k).alloc _).alloc _).alloc _
  have hRc : RB.Rec W (w.heap.size + 1) r := by
    rw [← hW]
    have := ((RB.Rec.new (w.alloc (.cells #[.int .u16 c, .int .u8 t, .int .u8 f, .int .u32 (k : Int)] 46)) r hr.1).alloc (.cells (encS s) 53)).alloc (.cells (encS M.s0) 53)
    simpa using this
  have hS : St W (w.heap.size + 1 + 1) 53 s := by
    rw [← hW]
    have := (St.new ((w.alloc (.cells #[.int .u16 c, .int .u8 t, .int .u8 f, .int .u32 (k : Int)] 46)).alloc (.cells (RB.enc r) 36)) 53 s hs.m.1).alloc (.cells (encS M.s0) 53)
    simpa using this
  have hO : St W (w.heap.size + 1 + 1 + 1) 53 M.s0 := by
    rw [← hW]
    have := St.new (((w.alloc (.cells #[.int .u16 c, .int .u8 t, .int .u8 f, .int .u32 (k : Int)] 46)).alloc (.cells (RB.enc r) 36)).alloc (.cells (encS s) 53)) 53 M.s0 rfl
    simpa using this
  obtain ⟨a0, a1, a2, a3, _⟩ := hA.cells
  obtain ⟨s1, s2, s3, s4, s5⟩ := hS.cells
  have hl21 := hS.load
  have hl16 := hRc.load
  have hl4 := hA.load
  have hsz21 := encS_size hs.m.1
  have hsz16 := RB.enc_size hr.1
  have HV := hid (show M.stepI (c, t, f, k) r s = { s with a := 64, pc := s.pc + 1 } from M.st2 hkd)
  have hlu : ({ s with a := 64 } : M.S).m.length = 16 := hs.m.1
  have HC := hid (fun w => mv2 c t f k ok r hr s hs hkd w)
  obtain ⟨u, hu⟩ : ∃ u : M.S, { s with a := 64 } = u := ⟨_, rfl⟩
  have hup : u.pc = (p : Int) := by rw [← hu]; exact hp
  have HU := hid (show { s with a := 64, pc := s.pc + 1 } = { u with pc := (p : Int) + 1 } by rw [← hu, hp])
  rw [hu] at HC hlu
  clear hu
  go_enter Try.func33, Try.ntmps33
  go_wp2_with fail
  refine (kind_any _ _).mono ?_
  rintro e w1 ⟨rfl, rfl⟩
  rw [hkd]
  go_wp2_with fail
  refine (HC.out _).mono ?_
  rintro e w2 ⟨rfl, hb⟩
  have hszu := encS_size hlu
  have hO2 := hO.below hb
  obtain ⟨W4, hst4, hS4, hoth4, hsize4, hB4⟩ := (hS.below hb).storeK hlu
  have HB4 := hid (hB4 w.heap.size w (by omega) (stp HB hb).out)
  have hO4 : St W4 (w.heap.size + 1 + 1 + 1) 53 M.s0 := ⟨by rw [hoth4 _ (by omega)]; exact hO2.1, hO2.2⟩
  clear hB4 hoth4 hsize4 hb hS hO hO2 HB hA hRc hW hl21 hl16 hl4 a0 a1 a2 a3 s1 s2 s3 s4 s5
  obtain ⟨s1, s2, s3, s4, s5⟩ := hS4.cells
  rw [hup] at s1
  have g0 := hS4.frozen (0)
  have S0 := hS4.setPc ((p : Int) + 1)
  have O0 : St (W4.setCell ⟨w.heap.size + 1 + 1, 0, none⟩ (.int .i64 ((p : Int) + 1))) (w.heap.size + 1 + 1 + 1) 53 M.s0 := ⟨by rw [Below.heap_setCell _ _ _ _ (show w.heap.size + 1 + 1 + 1 ≠ w.heap.size + 1 + 1 by omega)]; exact hO4.1, hO4.2⟩
  have H0 := hid (HB4.out.setCell (p := ⟨w.heap.size + 1 + 1, 0, none⟩) (by simp; omega) (.int .i64 ((p : Int) + 1)))
  obtain ⟨V0, v0⟩ : ∃ V, W4.setCell ⟨w.heap.size + 1 + 1, 0, none⟩ (.int .i64 ((p : Int) + 1)) = V := ⟨_, rfl⟩
  rw [v0] at S0 O0 H0
  obtain ⟨c01, c02, c03, c04, c05⟩ := S0.cells
  simp only at S0 c01 c02 c03 c04 c05
  have hld := S0.load
  have hsz2 := encS_size S0.2
  obtain ⟨W5, hst, hR5, _, _, hB5⟩ := O0.storeK S0.2
  have HB5 := hid (hB5 w.heap.size w (by omega) H0.out)
  have HR5 := hid hR5
  clear hB5 hR5
  clear hS4 hO4 HB4 S0 O0 H0
  go_wp2
  refine bodyPost_ret (v := .agg (encS (M.stepI (c, t, f, k) r s))) ?_ rfl ⟨rfl, HB5.out⟩
  rw [HV.out, HU.out]
  exact results_stK Try.results33 _ rfl HR5.out

set_option maxHeartbeats 3200000 in
set_option maxRecDepth 1000000 in
theorem bh3 (c t f : Int) (k : Nat) (ok : M.okI (c, t, f, k)) (r : List Int) (hr : R.okR r) (s : M.S) (hs : M.okS s) (p : Nat) (hp : s.pc = p) (hpn : p ≤ 65536) (hkd : M.kind c = 3) (w : World) :
    Calls Try.prog 33 #[.agg #[.int .u16 c, .int .u8 t, .int .u8 f, .int .u32 (k : Int)], .agg (RB.enc r), .agg (encS s)] w fun e w' => e = .returned (.agg (encS (M.stepI (c, t, f, k) r s))) ∧ Below w.heap.size w w' := by
  have hX := RB.lcf_eq
  have hz := s0_lit
  have b3 : 0 ≤ (k : Int) ∧ (k : Int) < 4294967296 := ok.2.2.2
  obtain ⟨W, hW⟩ : ∃ W, (((w.alloc (.cells #[.int .u16 c, .int .u8 t, .int .u8 f, .int .u32 (k : Int)] 46)).alloc (.cells (RB.enc r) 36)).alloc (.cells (encS s) 53)).alloc (.cells (encS M.s0) 53) = W := ⟨_, rfl⟩
  have HB : Hid (Below w.heap.size w W) := by rw [← hW]; exact hid ((((Below.refl _ w).alloc (Nat.le_refl _) _).alloc (by simp) _).alloc (by simp; omega) _ |>.alloc (by simp; omega) _)
  have hA : At W (w.heap.size) c t f k := by rw [← hW]; exact (((At.new w c t f k).alloc _).alloc _).alloc _
  have hRc : RB.Rec W (w.heap.size + 1) r := by
    rw [← hW]
    have := ((RB.Rec.new (w.alloc (.cells #[.int .u16 c, .int .u8 t, .int .u8 f, .int .u32 (k : Int)] 46)) r hr.1).alloc (.cells (encS s) 53)).alloc (.cells (encS M.s0) 53)
    simpa using this
  have hS : St W (w.heap.size + 1 + 1) 53 s := by
    rw [← hW]
    have := (St.new ((w.alloc (.cells #[.int .u16 c, .int .u8 t, .int .u8 f, .int .u32 (k : Int)] 46)).alloc (.cells (RB.enc r) 36)) 53 s hs.m.1).alloc (.cells (encS M.s0) 53)
    simpa using this
  have hO : St W (w.heap.size + 1 + 1 + 1) 53 M.s0 := by
    rw [← hW]
    have := St.new (((w.alloc (.cells #[.int .u16 c, .int .u8 t, .int .u8 f, .int .u32 (k : Int)] 46)).alloc (.cells (RB.enc r) 36)).alloc (.cells (encS s) 53)) 53 M.s0 rfl
    simpa using this
  obtain ⟨a0, a1, a2, a3, _⟩ := hA.cells
  obtain ⟨s1, s2, s3, s4, s5⟩ := hS.cells
  have hl21 := hS.load
  have hl16 := hRc.load
  have hl4 := hA.load
  have hsz21 := encS_size hs.m.1
  have hsz16 := RB.enc_size hr.1
  have HV := hid (show M.stepI (c, t, f, k) r s = { s with a := (k : Int), pc := s.pc + 1 } from M.st3 hkd)
  have hlu : ({ s with a := (k : Int) } : M.S).m.length = 16 := hs.m.1
  have HC := hid (fun w => mv3 c t f k ok r hr s hs hkd w)
  obtain ⟨u, hu⟩ : ∃ u : M.S, { s with a := (k : Int) } = u := ⟨_, rfl⟩
  have hup : u.pc = (p : Int) := by rw [← hu]; exact hp
  have HU := hid (show { s with a := (k : Int), pc := s.pc + 1 } = { u with pc := (p : Int) + 1 } by rw [← hu, hp])
  rw [hu] at HC hlu
  clear hu
  go_enter Try.func33, Try.ntmps33
  go_wp2_with fail
  refine (kind_any _ _).mono ?_
  rintro e w1 ⟨rfl, rfl⟩
  rw [hkd]
  go_wp2_with fail
  refine (HC.out _).mono ?_
  rintro e w2 ⟨rfl, hb⟩
  have hszu := encS_size hlu
  have hO2 := hO.below hb
  obtain ⟨W4, hst4, hS4, hoth4, hsize4, hB4⟩ := (hS.below hb).storeK hlu
  have HB4 := hid (hB4 w.heap.size w (by omega) (stp HB hb).out)
  have hO4 : St W4 (w.heap.size + 1 + 1 + 1) 53 M.s0 := ⟨by rw [hoth4 _ (by omega)]; exact hO2.1, hO2.2⟩
  clear hB4 hoth4 hsize4 hb hS hO hO2 HB hA hRc hW hl21 hl16 hl4 a0 a1 a2 a3 s1 s2 s3 s4 s5
  obtain ⟨s1, s2, s3, s4, s5⟩ := hS4.cells
  rw [hup] at s1
  have g0 := hS4.frozen (0)
  have S0 := hS4.setPc ((p : Int) + 1)
  have O0 : St (W4.setCell ⟨w.heap.size + 1 + 1, 0, none⟩ (.int .i64 ((p : Int) + 1))) (w.heap.size + 1 + 1 + 1) 53 M.s0 := ⟨by rw [Below.heap_setCell _ _ _ _ (show w.heap.size + 1 + 1 + 1 ≠ w.heap.size + 1 + 1 by omega)]; exact hO4.1, hO4.2⟩
  have H0 := hid (HB4.out.setCell (p := ⟨w.heap.size + 1 + 1, 0, none⟩) (by simp; omega) (.int .i64 ((p : Int) + 1)))
  obtain ⟨V0, v0⟩ : ∃ V, W4.setCell ⟨w.heap.size + 1 + 1, 0, none⟩ (.int .i64 ((p : Int) + 1)) = V := ⟨_, rfl⟩
  rw [v0] at S0 O0 H0
  obtain ⟨c01, c02, c03, c04, c05⟩ := S0.cells
  simp only at S0 c01 c02 c03 c04 c05
  have hld := S0.load
  have hsz2 := encS_size S0.2
  obtain ⟨W5, hst, hR5, _, _, hB5⟩ := O0.storeK S0.2
  have HB5 := hid (hB5 w.heap.size w (by omega) H0.out)
  have HR5 := hid hR5
  clear hB5 hR5
  clear hS4 hO4 HB4 S0 O0 H0
  go_wp2
  refine bodyPost_ret (v := .agg (encS (M.stepI (c, t, f, k) r s))) ?_ rfl ⟨rfl, HB5.out⟩
  rw [HV.out, HU.out]
  exact results_stK Try.results33 _ rfl HR5.out

set_option maxHeartbeats 3200000 in
set_option maxRecDepth 1000000 in
theorem bh5 (c t f : Int) (k : Nat) (ok : M.okI (c, t, f, k)) (r : List Int) (hr : R.okR r) (s : M.S) (hs : M.okS s) (p : Nat) (hp : s.pc = p) (hpn : p ≤ 65536) (hkd : M.kind c = 5) (w : World) :
    Calls Try.prog 33 #[.agg #[.int .u16 c, .int .u8 t, .int .u8 f, .int .u32 (k : Int)], .agg (RB.enc r), .agg (encS s)] w fun e w' => e = .returned (.agg (encS (M.stepI (c, t, f, k) r s))) ∧ Below w.heap.size w w' := by
  have hX := RB.lcf_eq
  have hz := s0_lit
  have b3 : 0 ≤ (k : Int) ∧ (k : Int) < 4294967296 := ok.2.2.2
  obtain ⟨W, hW⟩ : ∃ W, (((w.alloc (.cells #[.int .u16 c, .int .u8 t, .int .u8 f, .int .u32 (k : Int)] 46)).alloc (.cells (RB.enc r) 36)).alloc (.cells (encS s) 53)).alloc (.cells (encS M.s0) 53) = W := ⟨_, rfl⟩
  have HB : Hid (Below w.heap.size w W) := by rw [← hW]; exact hid ((((Below.refl _ w).alloc (Nat.le_refl _) _).alloc (by simp) _).alloc (by simp; omega) _ |>.alloc (by simp; omega) _)
  have hA : At W (w.heap.size) c t f k := by rw [← hW]; exact (((At.new w c t f k).alloc _).alloc _).alloc _
  have hRc : RB.Rec W (w.heap.size + 1) r := by
    rw [← hW]
    have := ((RB.Rec.new (w.alloc (.cells #[.int .u16 c, .int .u8 t, .int .u8 f, .int .u32 (k : Int)] 46)) r hr.1).alloc (.cells (encS s) 53)).alloc (.cells (encS M.s0) 53)
    simpa using this
  have hS : St W (w.heap.size + 1 + 1) 53 s := by
    rw [← hW]
    have := (St.new ((w.alloc (.cells #[.int .u16 c, .int .u8 t, .int .u8 f, .int .u32 (k : Int)] 46)).alloc (.cells (RB.enc r) 36)) 53 s hs.m.1).alloc (.cells (encS M.s0) 53)
    simpa using this
  have hO : St W (w.heap.size + 1 + 1 + 1) 53 M.s0 := by
    rw [← hW]
    have := St.new (((w.alloc (.cells #[.int .u16 c, .int .u8 t, .int .u8 f, .int .u32 (k : Int)] 46)).alloc (.cells (RB.enc r) 36)).alloc (.cells (encS s) 53)) 53 M.s0 rfl
    simpa using this
  obtain ⟨a0, a1, a2, a3, _⟩ := hA.cells
  obtain ⟨s1, s2, s3, s4, s5⟩ := hS.cells
  have hl21 := hS.load
  have hl16 := hRc.load
  have hl4 := hA.load
  have hsz21 := encS_size hs.m.1
  have hsz16 := RB.enc_size hr.1
  have HV := hid (show M.stepI (c, t, f, k) r s = { s with x := (k : Int), pc := s.pc + 1 } from M.st5 hkd)
  have hlu : ({ s with x := (k : Int) } : M.S).m.length = 16 := hs.m.1
  have HC := hid (fun w => mv5 c t f k ok r hr s hs hkd w)
  obtain ⟨u, hu⟩ : ∃ u : M.S, { s with x := (k : Int) } = u := ⟨_, rfl⟩
  have hup : u.pc = (p : Int) := by rw [← hu]; exact hp
  have HU := hid (show { s with x := (k : Int), pc := s.pc + 1 } = { u with pc := (p : Int) + 1 } by rw [← hu, hp])
  rw [hu] at HC hlu
  clear hu
  go_enter Try.func33, Try.ntmps33
  go_wp2_with fail
  refine (kind_any _ _).mono ?_
  rintro e w1 ⟨rfl, rfl⟩
  rw [hkd]
  go_wp2_with fail
  refine (HC.out _).mono ?_
  rintro e w2 ⟨rfl, hb⟩
  have hszu := encS_size hlu
  have hO2 := hO.below hb
  obtain ⟨W4, hst4, hS4, hoth4, hsize4, hB4⟩ := (hS.below hb).storeK hlu
  have HB4 := hid (hB4 w.heap.size w (by omega) (stp HB hb).out)
  have hO4 : St W4 (w.heap.size + 1 + 1 + 1) 53 M.s0 := ⟨by rw [hoth4 _ (by omega)]; exact hO2.1, hO2.2⟩
  clear hB4 hoth4 hsize4 hb hS hO hO2 HB hA hRc hW hl21 hl16 hl4 a0 a1 a2 a3 s1 s2 s3 s4 s5
  obtain ⟨s1, s2, s3, s4, s5⟩ := hS4.cells
  rw [hup] at s1
  have g0 := hS4.frozen (0)
  have S0 := hS4.setPc ((p : Int) + 1)
  have O0 : St (W4.setCell ⟨w.heap.size + 1 + 1, 0, none⟩ (.int .i64 ((p : Int) + 1))) (w.heap.size + 1 + 1 + 1) 53 M.s0 := ⟨by rw [Below.heap_setCell _ _ _ _ (show w.heap.size + 1 + 1 + 1 ≠ w.heap.size + 1 + 1 by omega)]; exact hO4.1, hO4.2⟩
  have H0 := hid (HB4.out.setCell (p := ⟨w.heap.size + 1 + 1, 0, none⟩) (by simp; omega) (.int .i64 ((p : Int) + 1)))
  obtain ⟨V0, v0⟩ : ∃ V, W4.setCell ⟨w.heap.size + 1 + 1, 0, none⟩ (.int .i64 ((p : Int) + 1)) = V := ⟨_, rfl⟩
  rw [v0] at S0 O0 H0
  obtain ⟨c01, c02, c03, c04, c05⟩ := S0.cells
  simp only at S0 c01 c02 c03 c04 c05
  have hld := S0.load
  have hsz2 := encS_size S0.2
  obtain ⟨W5, hst, hR5, _, _, hB5⟩ := O0.storeK S0.2
  have HB5 := hid (hB5 w.heap.size w (by omega) H0.out)
  have HR5 := hid hR5
  clear hB5 hR5
  clear hS4 hO4 HB4 S0 O0 H0
  go_wp2
  refine bodyPost_ret (v := .agg (encS (M.stepI (c, t, f, k) r s))) ?_ rfl ⟨rfl, HB5.out⟩
  rw [HV.out, HU.out]
  exact results_stK Try.results33 _ rfl HR5.out

set_option maxHeartbeats 3200000 in
set_option maxRecDepth 1000000 in
theorem bh7 (c t f : Int) (k : Nat) (ok : M.okI (c, t, f, k)) (r : List Int) (hr : R.okR r) (s : M.S) (hs : M.okS s) (p : Nat) (hp : s.pc = p) (hpn : p ≤ 65536) (hkd : M.kind c = 7) (w : World) :
    Calls Try.prog 33 #[.agg #[.int .u16 c, .int .u8 t, .int .u8 f, .int .u32 (k : Int)], .agg (RB.enc r), .agg (encS s)] w fun e w' => e = .returned (.agg (encS (M.stepI (c, t, f, k) r s))) ∧ Below w.heap.size w w' := by
  have hX := RB.lcf_eq
  have hz := s0_lit
  have b3 : 0 ≤ (k : Int) ∧ (k : Int) < 4294967296 := ok.2.2.2
  obtain ⟨W, hW⟩ : ∃ W, (((w.alloc (.cells #[.int .u16 c, .int .u8 t, .int .u8 f, .int .u32 (k : Int)] 46)).alloc (.cells (RB.enc r) 36)).alloc (.cells (encS s) 53)).alloc (.cells (encS M.s0) 53) = W := ⟨_, rfl⟩
  have HB : Hid (Below w.heap.size w W) := by rw [← hW]; exact hid ((((Below.refl _ w).alloc (Nat.le_refl _) _).alloc (by simp) _).alloc (by simp; omega) _ |>.alloc (by simp; omega) _)
  have hA : At W (w.heap.size) c t f k := by rw [← hW]; exact (((At.new w c t f k).alloc _).alloc _).alloc _
  have hRc : RB.Rec W (w.heap.size + 1) r := by
    rw [← hW]
    have := ((RB.Rec.new (w.alloc (.cells #[.int .u16 c, .int .u8 t, .int .u8 f, .int .u32 (k : Int)] 46)) r hr.1).alloc (.cells (encS s) 53)).alloc (.cells (encS M.s0) 53)
    simpa using this
  have hS : St W (w.heap.size + 1 + 1) 53 s := by
    rw [← hW]
    have := (St.new ((w.alloc (.cells #[.int .u16 c, .int .u8 t, .int .u8 f, .int .u32 (k : Int)] 46)).alloc (.cells (RB.enc r) 36)) 53 s hs.m.1).alloc (.cells (encS M.s0) 53)
    simpa using this
  have hO : St W (w.heap.size + 1 + 1 + 1) 53 M.s0 := by
    rw [← hW]
    have := St.new (((w.alloc (.cells #[.int .u16 c, .int .u8 t, .int .u8 f, .int .u32 (k : Int)] 46)).alloc (.cells (RB.enc r) 36)).alloc (.cells (encS s) 53)) 53 M.s0 rfl
    simpa using this
  obtain ⟨a0, a1, a2, a3, _⟩ := hA.cells
  obtain ⟨s1, s2, s3, s4, s5⟩ := hS.cells
  have hl21 := hS.load
  have hl16 := hRc.load
  have hl4 := hA.load
  have hsz21 := encS_size hs.m.1
  have hsz16 := RB.enc_size hr.1
  have HV := hid (show M.stepI (c, t, f, k) r s = { s with x := 64, pc := s.pc + 1 } from M.st7 hkd)
  have hlu : ({ s with x := 64 } : M.S).m.length = 16 := hs.m.1
  have HC := hid (fun w => mv7 c t f k ok r hr s hs hkd w)
  obtain ⟨u, hu⟩ : ∃ u : M.S, { s with x := 64 } = u := ⟨_, rfl⟩
  have hup : u.pc = (p : Int) := by rw [← hu]; exact hp
  have HU := hid (show { s with x := 64, pc := s.pc + 1 } = { u with pc := (p : Int) + 1 } by rw [← hu, hp])
  rw [hu] at HC hlu
  clear hu
  go_enter Try.func33, Try.ntmps33
  go_wp2_with fail
  refine (kind_any _ _).mono ?_
  rintro e w1 ⟨rfl, rfl⟩
  rw [hkd]
  go_wp2_with fail
  refine (HC.out _).mono ?_
  rintro e w2 ⟨rfl, hb⟩
  have hszu := encS_size hlu
  have hO2 := hO.below hb
  obtain ⟨W4, hst4, hS4, hoth4, hsize4, hB4⟩ := (hS.below hb).storeK hlu
  have HB4 := hid (hB4 w.heap.size w (by omega) (stp HB hb).out)
  have hO4 : St W4 (w.heap.size + 1 + 1 + 1) 53 M.s0 := ⟨by rw [hoth4 _ (by omega)]; exact hO2.1, hO2.2⟩
  clear hB4 hoth4 hsize4 hb hS hO hO2 HB hA hRc hW hl21 hl16 hl4 a0 a1 a2 a3 s1 s2 s3 s4 s5
  obtain ⟨s1, s2, s3, s4, s5⟩ := hS4.cells
  rw [hup] at s1
  have g0 := hS4.frozen (0)
  have S0 := hS4.setPc ((p : Int) + 1)
  have O0 : St (W4.setCell ⟨w.heap.size + 1 + 1, 0, none⟩ (.int .i64 ((p : Int) + 1))) (w.heap.size + 1 + 1 + 1) 53 M.s0 := ⟨by rw [Below.heap_setCell _ _ _ _ (show w.heap.size + 1 + 1 + 1 ≠ w.heap.size + 1 + 1 by omega)]; exact hO4.1, hO4.2⟩
  have H0 := hid (HB4.out.setCell (p := ⟨w.heap.size + 1 + 1, 0, none⟩) (by simp; omega) (.int .i64 ((p : Int) + 1)))
  obtain ⟨V0, v0⟩ : ∃ V, W4.setCell ⟨w.heap.size + 1 + 1, 0, none⟩ (.int .i64 ((p : Int) + 1)) = V := ⟨_, rfl⟩
  rw [v0] at S0 O0 H0
  obtain ⟨c01, c02, c03, c04, c05⟩ := S0.cells
  simp only at S0 c01 c02 c03 c04 c05
  have hld := S0.load
  have hsz2 := encS_size S0.2
  obtain ⟨W5, hst, hR5, _, _, hB5⟩ := O0.storeK S0.2
  have HB5 := hid (hB5 w.heap.size w (by omega) H0.out)
  have HR5 := hid hR5
  clear hB5 hR5
  clear hS4 hO4 HB4 S0 O0 H0
  go_wp2
  refine bodyPost_ret (v := .agg (encS (M.stepI (c, t, f, k) r s))) ?_ rfl ⟨rfl, HB5.out⟩
  rw [HV.out, HU.out]
  exact results_stK Try.results33 _ rfl HR5.out

set_option maxHeartbeats 3200000 in
set_option maxRecDepth 1000000 in
theorem bh15 (c t f : Int) (k : Nat) (ok : M.okI (c, t, f, k)) (r : List Int) (hr : R.okR r) (s : M.S) (hs : M.okS s) (p : Nat) (hp : s.pc = p) (hpn : p ≤ 65536) (hkd : M.kind c = 15) (w : World) :
    Calls Try.prog 33 #[.agg #[.int .u16 c, .int .u8 t, .int .u8 f, .int .u32 (k : Int)], .agg (RB.enc r), .agg (encS s)] w fun e w' => e = .returned (.agg (encS (M.stepI (c, t, f, k) r s))) ∧ Below w.heap.size w w' := by
  have hX := RB.lcf_eq
  have hz := s0_lit
  have b3 : 0 ≤ (k : Int) ∧ (k : Int) < 4294967296 := ok.2.2.2
  obtain ⟨W, hW⟩ : ∃ W, (((w.alloc (.cells #[.int .u16 c, .int .u8 t, .int .u8 f, .int .u32 (k : Int)] 46)).alloc (.cells (RB.enc r) 36)).alloc (.cells (encS s) 53)).alloc (.cells (encS M.s0) 53) = W := ⟨_, rfl⟩
  have HB : Hid (Below w.heap.size w W) := by rw [← hW]; exact hid ((((Below.refl _ w).alloc (Nat.le_refl _) _).alloc (by simp) _).alloc (by simp; omega) _ |>.alloc (by simp; omega) _)
  have hA : At W (w.heap.size) c t f k := by rw [← hW]; exact (((At.new w c t f k).alloc _).alloc _).alloc _
  have hRc : RB.Rec W (w.heap.size + 1) r := by
    rw [← hW]
    have := ((RB.Rec.new (w.alloc (.cells #[.int .u16 c, .int .u8 t, .int .u8 f, .int .u32 (k : Int)] 46)) r hr.1).alloc (.cells (encS s) 53)).alloc (.cells (encS M.s0) 53)
    simpa using this
  have hS : St W (w.heap.size + 1 + 1) 53 s := by
    rw [← hW]
    have := (St.new ((w.alloc (.cells #[.int .u16 c, .int .u8 t, .int .u8 f, .int .u32 (k : Int)] 46)).alloc (.cells (RB.enc r) 36)) 53 s hs.m.1).alloc (.cells (encS M.s0) 53)
    simpa using this
  have hO : St W (w.heap.size + 1 + 1 + 1) 53 M.s0 := by
    rw [← hW]
    have := St.new (((w.alloc (.cells #[.int .u16 c, .int .u8 t, .int .u8 f, .int .u32 (k : Int)] 46)).alloc (.cells (RB.enc r) 36)).alloc (.cells (encS s) 53)) 53 M.s0 rfl
    simpa using this
  obtain ⟨a0, a1, a2, a3, _⟩ := hA.cells
  obtain ⟨s1, s2, s3, s4, s5⟩ := hS.cells
  have hl21 := hS.load
  have hl16 := hRc.load
  have hl4 := hA.load
  have hsz21 := encS_size hs.m.1
  have hsz16 := RB.enc_size hr.1
  have HV := hid (show M.stepI (c, t, f, k) r s = { s with x := s.a, pc := s.pc + 1 } from M.st15 hkd)
  have hlu : ({ s with x := s.a } : M.S).m.length = 16 := hs.m.1
  have HC := hid (fun w => mv15 c t f k ok r hr s hs hkd w)
  obtain ⟨u, hu⟩ : ∃ u : M.S, { s with x := s.a } = u := ⟨_, rfl⟩
  have hup : u.pc = (p : Int) := by rw [← hu]; exact hp
  have HU := hid (show { s with x := s.a, pc := s.pc + 1 } = { u with pc := (p : Int) + 1 } by rw [← hu, hp])
  rw [hu] at HC hlu
  clear hu
  go_enter Try.func33, Try.ntmps33
  go_wp2_with fail
  refine (kind_any _ _).mono ?_
  rintro e w1 ⟨rfl, rfl⟩
  rw [hkd]
  go_wp2_with fail
  refine (HC.out _).mono ?_
  rintro e w2 ⟨rfl, hb⟩
  have hszu := encS_size hlu
  have hO2 := hO.below hb
  obtain ⟨W4, hst4, hS4, hoth4, hsize4, hB4⟩ := (hS.below hb).storeK hlu
  have HB4 := hid (hB4 w.heap.size w (by omega) (stp HB hb).out)
  have hO4 : St W4 (w.heap.size + 1 + 1 + 1) 53 M.s0 := ⟨by rw [hoth4 _ (by omega)]; exact hO2.1, hO2.2⟩
  clear hB4 hoth4 hsize4 hb hS hO hO2 HB hA hRc hW hl21 hl16 hl4 a0 a1 a2 a3 s1 s2 s3 s4 s5
  obtain ⟨s1, s2, s3, s4, s5⟩ := hS4.cells
  rw [hup] at s1
  have g0 := hS4.frozen (0)
  have S0 := hS4.setPc ((p : Int) + 1)
  have O0 : St (W4.setCell ⟨w.heap.size + 1 + 1, 0, none⟩ (.int .i64 ((p : Int) + 1))) (w.heap.size + 1 + 1 + 1) 53 M.s0 := ⟨by rw [Below.heap_setCell _ _ _ _ (show w.heap.size + 1 + 1 + 1 ≠ w.heap.size + 1 + 1 by omega)]; exact hO4.1, hO4.2⟩
  have H0 := hid (HB4.out.setCell (p := ⟨w.heap.size + 1 + 1, 0, none⟩) (by simp; omega) (.int .i64 ((p : Int) + 1)))
  obtain ⟨V0, v0⟩ : ∃ V, W4.setCell ⟨w.heap.size + 1 + 1, 0, none⟩ (.int .i64 ((p : Int) + 1)) = V := ⟨_, rfl⟩
  rw [v0] at S0 O0 H0
  obtain ⟨c01, c02, c03, c04, c05⟩ := S0.cells
  simp only at S0 c01 c02 c03 c04 c05
  have hld := S0.load
  have hsz2 := encS_size S0.2
  obtain ⟨W5, hst, hR5, _, _, hB5⟩ := O0.storeK S0.2
  have HB5 := hid (hB5 w.heap.size w (by omega) H0.out)
  have HR5 := hid hR5
  clear hB5 hR5
  clear hS4 hO4 HB4 S0 O0 H0
  go_wp2
  refine bodyPost_ret (v := .agg (encS (M.stepI (c, t, f, k) r s))) ?_ rfl ⟨rfl, HB5.out⟩
  rw [HV.out, HU.out]
  exact results_stK Try.results33 _ rfl HR5.out

set_option maxHeartbeats 3200000 in
set_option maxRecDepth 1000000 in
theorem bh16 (c t f : Int) (k : Nat) (ok : M.okI (c, t, f, k)) (r : List Int) (hr : R.okR r) (s : M.S) (hs : M.okS s) (p : Nat) (hp : s.pc = p) (hpn : p ≤ 65536) (hkd : M.kind c = 16) (w : World) :
    Calls Try.prog 33 #[.agg #[.int .u16 c, .int .u8 t, .int .u8 f, .int .u32 (k : Int)], .agg (RB.enc r), .agg (encS s)] w fun e w' => e = .returned (.agg (encS (M.stepI (c, t, f, k) r s))) ∧ Below w.heap.size w w' := by
  have hX := RB.lcf_eq
  have hz := s0_lit
  have b3 : 0 ≤ (k : Int) ∧ (k : Int) < 4294967296 := ok.2.2.2
  obtain ⟨W, hW⟩ : ∃ W, (((w.alloc (.cells #[.int .u16 c, .int .u8 t, .int .u8 f, .int .u32 (k : Int)] 46)).alloc (.cells (RB.enc r) 36)).alloc (.cells (encS s) 53)).alloc (.cells (encS M.s0) 53) = W := ⟨_, rfl⟩
  have HB : Hid (Below w.heap.size w W) := by rw [← hW]; exact hid ((((Below.refl _ w).alloc (Nat.le_refl _) _).alloc (by simp) _).alloc (by simp; omega) _ |>.alloc (by simp; omega) _)
  have hA : At W (w.heap.size) c t f k := by rw [← hW]; exact (((At.new w c t f k).alloc _).alloc _).alloc _
  have hRc : RB.Rec W (w.heap.size + 1) r := by
    rw [← hW]
    have := ((RB.Rec.new (w.alloc (.cells #[.int .u16 c, .int .u8 t, .int .u8 f, .int .u32 (k : Int)] 46)) r hr.1).alloc (.cells (encS s) 53)).alloc (.cells (encS M.s0) 53)
    simpa using this
  have hS : St W (w.heap.size + 1 + 1) 53 s := by
    rw [← hW]
    have := (St.new ((w.alloc (.cells #[.int .u16 c, .int .u8 t, .int .u8 f, .int .u32 (k : Int)] 46)).alloc (.cells (RB.enc r) 36)) 53 s hs.m.1).alloc (.cells (encS M.s0) 53)
    simpa using this
  have hO : St W (w.heap.size + 1 + 1 + 1) 53 M.s0 := by
    rw [← hW]
    have := St.new (((w.alloc (.cells #[.int .u16 c, .int .u8 t, .int .u8 f, .int .u32 (k : Int)] 46)).alloc (.cells (RB.enc r) 36)).alloc (.cells (encS s) 53)) 53 M.s0 rfl
    simpa using this
  obtain ⟨a0, a1, a2, a3, _⟩ := hA.cells
  obtain ⟨s1, s2, s3, s4, s5⟩ := hS.cells
  have hl21 := hS.load
  have hl16 := hRc.load
  have hl4 := hA.load
  have hsz21 := encS_size hs.m.1
  have hsz16 := RB.enc_size hr.1
  have HV := hid (show M.stepI (c, t, f, k) r s = { s with a := s.x, pc := s.pc + 1 } from M.st16 hkd)
  have hlu : ({ s with a := s.x } : M.S).m.length = 16 := hs.m.1
  have HC := hid (fun w => mv16 c t f k ok r hr s hs hkd w)
  obtain ⟨u, hu⟩ : ∃ u : M.S, { s with a := s.x } = u := ⟨_, rfl⟩
  have hup : u.pc = (p : Int) := by rw [← hu]; exact hp
  have HU := hid (show { s with a := s.x, pc := s.pc + 1 } = { u with pc := (p : Int) + 1 } by rw [← hu, hp])
  rw [hu] at HC hlu
  clear hu
  go_enter Try.func33, Try.ntmps33
  go_wp2_with fail
  refine (kind_any _ _).mono ?_
  rintro e w1 ⟨rfl, rfl⟩
  rw [hkd]
  go_wp2_with fail
  refine (HC.out _).mono ?_
  rintro e w2 ⟨rfl, hb⟩
  have hszu := encS_size hlu
  have hO2 := hO.below hb
  obtain ⟨W4, hst4, hS4, hoth4, hsize4, hB4⟩ := (hS.below hb).storeK hlu
  have HB4 := hid (hB4 w.heap.size w (by omega) (stp HB hb).out)
  have hO4 : St W4 (w.heap.size + 1 + 1 + 1) 53 M.s0 := ⟨by rw [hoth4 _ (by omega)]; exact hO2.1, hO2.2⟩
  clear hB4 hoth4 hsize4 hb hS hO hO2 HB hA hRc hW hl21 hl16 hl4 a0 a1 a2 a3 s1 s2 s3 s4 s5
  obtain ⟨s1, s2, s3, s4, s5⟩ := hS4.cells
  rw [hup] at s1
  have g0 := hS4.frozen (0)
  have S0 := hS4.setPc ((p : Int) + 1)
  have O0 : St (W4.setCell ⟨w.heap.size + 1 + 1, 0, none⟩ (.int .i64 ((p : Int) + 1))) (w.heap.size + 1 + 1 + 1) 53 M.s0 := ⟨by rw [Below.heap_setCell _ _ _ _ (show w.heap.size + 1 + 1 + 1 ≠ w.heap.size + 1 + 1 by omega)]; exact hO4.1, hO4.2⟩
  have H0 := hid (HB4.out.setCell (p := ⟨w.heap.size + 1 + 1, 0, none⟩) (by simp; omega) (.int .i64 ((p : Int) + 1)))
  obtain ⟨V0, v0⟩ : ∃ V, W4.setCell ⟨w.heap.size + 1 + 1, 0, none⟩ (.int .i64 ((p : Int) + 1)) = V := ⟨_, rfl⟩
  rw [v0] at S0 O0 H0
  obtain ⟨c01, c02, c03, c04, c05⟩ := S0.cells
  simp only at S0 c01 c02 c03 c04 c05
  have hld := S0.load
  have hsz2 := encS_size S0.2
  obtain ⟨W5, hst, hR5, _, _, hB5⟩ := O0.storeK S0.2
  have HB5 := hid (hB5 w.heap.size w (by omega) H0.out)
  have HR5 := hid hR5
  clear hB5 hR5
  clear hS4 hO4 HB4 S0 O0 H0
  go_wp2
  refine bodyPost_ret (v := .agg (encS (M.stepI (c, t, f, k) r s))) ?_ rfl ⟨rfl, HB5.out⟩
  rw [HV.out, HU.out]
  exact results_stK Try.results33 _ rfl HR5.out

set_option maxHeartbeats 3200000 in
set_option maxRecDepth 1000000 in
theorem bh4 (c t f : Int) (k : Nat) (ok : M.okI (c, t, f, k)) (r : List Int) (hr : R.okR r) (s : M.S) (hs : M.okS s) (p : Nat) (hp : s.pc = p) (hpn : p ≤ 65536) (hkd : M.kind c = 4) (hkm : k < 16) (w : World) :
    Calls Try.prog 33 #[.agg #[.int .u16 c, .int .u8 t, .int .u8 f, .int .u32 (k : Int)], .agg (RB.enc r), .agg (encS s)] w fun e w' => e = .returned (.agg (encS (M.stepI (c, t, f, k) r s))) ∧ Below w.heap.size w w' := by
  have hX := RB.lcf_eq
  have hz := s0_lit
  have b3 : 0 ≤ (k : Int) ∧ (k : Int) < 4294967296 := ok.2.2.2
  obtain ⟨W, hW⟩ : ∃ W, (((w.alloc (.cells #[.int .u16 c, .int .u8 t, .int .u8 f, .int .u32 (k : Int)] 46)).alloc (.cells (RB.enc r) 36)).alloc (.cells (encS s) 53)).alloc (.cells (encS M.s0) 53) = W := ⟨_, rfl⟩
  have HB : Hid (Below w.heap.size w W) := by rw [← hW]; exact hid ((((Below.refl _ w).alloc (Nat.le_refl _) _).alloc (by simp) _).alloc (by simp; omega) _ |>.alloc (by simp; omega) _)
  have hA : At W (w.heap.size) c t f k := by rw [← hW]; exact (((At.new w c t f k).alloc _).alloc _).alloc _
  have hRc : RB.Rec W (w.heap.size + 1) r := by
    rw [← hW]
    have := ((RB.Rec.new (w.alloc (.cells #[.int .u16 c, .int .u8 t, .int .u8 f, .int .u32 (k : Int)] 46)) r hr.1).alloc (.cells (encS s) 53)).alloc (.cells (encS M.s0) 53)
    simpa using this
  have hS : St W (w.heap.size + 1 + 1) 53 s := by
    rw [← hW]
    have := (St.new ((w.alloc (.cells #[.int .u16 c, .int .u8 t, .int .u8 f, .int .u32 (k : Int)] 46)).alloc (.cells (RB.enc r) 36)) 53 s hs.m.1).alloc (.cells (encS M.s0) 53)
    simpa using this
  have hO : St W (w.heap.size + 1 + 1 + 1) 53 M.s0 := by
    rw [← hW]
    have := St.new (((w.alloc (.cells #[.int .u16 c, .int .u8 t, .int .u8 f, .int .u32 (k : Int)] 46)).alloc (.cells (RB.enc r) 36)).alloc (.cells (encS s) 53)) 53 M.s0 rfl
    simpa using this
  obtain ⟨a0, a1, a2, a3, _⟩ := hA.cells
  obtain ⟨s1, s2, s3, s4, s5⟩ := hS.cells
  have hl21 := hS.load
  have hl16 := hRc.load
  have hl4 := hA.load
  have hsz21 := encS_size hs.m.1
  have hsz16 := RB.enc_size hr.1
  have HV := hid (show M.stepI (c, t, f, k) r s = { s with a := R.at_ s.m k, pc := s.pc + 1 } from by rw [M.st4 hkd]; simp)
  have hlu : ({ s with a := R.at_ s.m k } : M.S).m.length = 16 := hs.m.1
  have HC := hid (fun w => mv4 c t f k ok r hr s hs hkd hkm w)
  obtain ⟨u, hu⟩ : ∃ u : M.S, { s with a := R.at_ s.m k } = u := ⟨_, rfl⟩
  have hup : u.pc = (p : Int) := by rw [← hu]; exact hp
  have HU := hid (show { s with a := R.at_ s.m k, pc := s.pc + 1 } = { u with pc := (p : Int) + 1 } by rw [← hu, hp])
  rw [hu] at HC hlu
  clear hu
  go_enter Try.func33, Try.ntmps33
  go_wp2_with fail
  refine (kind_any _ _).mono ?_
  rintro e w1 ⟨rfl, rfl⟩
  rw [hkd]
  go_wp2_with fail
  refine (HC.out _).mono ?_
  rintro e w2 ⟨rfl, hb⟩
  have hszu := encS_size hlu
  have hO2 := hO.below hb
  obtain ⟨W4, hst4, hS4, hoth4, hsize4, hB4⟩ := (hS.below hb).storeK hlu
  have HB4 := hid (hB4 w.heap.size w (by omega) (stp HB hb).out)
  have hO4 : St W4 (w.heap.size + 1 + 1 + 1) 53 M.s0 := ⟨by rw [hoth4 _ (by omega)]; exact hO2.1, hO2.2⟩
  clear hB4 hoth4 hsize4 hb hS hO hO2 HB hA hRc hW hl21 hl16 hl4 a0 a1 a2 a3 s1 s2 s3 s4 s5
  obtain ⟨s1, s2, s3, s4, s5⟩ := hS4.cells
  rw [hup] at s1
  have g0 := hS4.frozen (0)
  have S0 := hS4.setPc ((p : Int) + 1)
  have O0 : St (W4.setCell ⟨w.heap.size + 1 + 1, 0, none⟩ (.int .i64 ((p : Int) + 1))) (w.heap.size + 1 + 1 + 1) 53 M.s0 := ⟨by rw [Below.heap_setCell _ _ _ _ (show w.heap.size + 1 + 1 + 1 ≠ w.heap.size + 1 + 1 by omega)]; exact hO4.1, hO4.2⟩
  have H0 := hid (HB4.out.setCell (p := ⟨w.heap.size + 1 + 1, 0, none⟩) (by simp; omega) (.int .i64 ((p : Int) + 1)))
  obtain ⟨V0, v0⟩ : ∃ V, W4.setCell ⟨w.heap.size + 1 + 1, 0, none⟩ (.int .i64 ((p : Int) + 1)) = V := ⟨_, rfl⟩
  rw [v0] at S0 O0 H0
  obtain ⟨c01, c02, c03, c04, c05⟩ := S0.cells
  simp only at S0 c01 c02 c03 c04 c05
  have hld := S0.load
  have hsz2 := encS_size S0.2
  obtain ⟨W5, hst, hR5, _, _, hB5⟩ := O0.storeK S0.2
  have HB5 := hid (hB5 w.heap.size w (by omega) H0.out)
  have HR5 := hid hR5
  clear hB5 hR5
  clear hS4 hO4 HB4 S0 O0 H0
  go_wp2
  refine bodyPost_ret (v := .agg (encS (M.stepI (c, t, f, k) r s))) ?_ rfl ⟨rfl, HB5.out⟩
  rw [HV.out, HU.out]
  exact results_stK Try.results33 _ rfl HR5.out

set_option maxHeartbeats 3200000 in
set_option maxRecDepth 1000000 in
theorem bh6 (c t f : Int) (k : Nat) (ok : M.okI (c, t, f, k)) (r : List Int) (hr : R.okR r) (s : M.S) (hs : M.okS s) (p : Nat) (hp : s.pc = p) (hpn : p ≤ 65536) (hkd : M.kind c = 6) (hkm : k < 16) (w : World) :
    Calls Try.prog 33 #[.agg #[.int .u16 c, .int .u8 t, .int .u8 f, .int .u32 (k : Int)], .agg (RB.enc r), .agg (encS s)] w fun e w' => e = .returned (.agg (encS (M.stepI (c, t, f, k) r s))) ∧ Below w.heap.size w w' := by
  have hX := RB.lcf_eq
  have hz := s0_lit
  have b3 : 0 ≤ (k : Int) ∧ (k : Int) < 4294967296 := ok.2.2.2
  obtain ⟨W, hW⟩ : ∃ W, (((w.alloc (.cells #[.int .u16 c, .int .u8 t, .int .u8 f, .int .u32 (k : Int)] 46)).alloc (.cells (RB.enc r) 36)).alloc (.cells (encS s) 53)).alloc (.cells (encS M.s0) 53) = W := ⟨_, rfl⟩
  have HB : Hid (Below w.heap.size w W) := by rw [← hW]; exact hid ((((Below.refl _ w).alloc (Nat.le_refl _) _).alloc (by simp) _).alloc (by simp; omega) _ |>.alloc (by simp; omega) _)
  have hA : At W (w.heap.size) c t f k := by rw [← hW]; exact (((At.new w c t f k).alloc _).alloc _).alloc _
  have hRc : RB.Rec W (w.heap.size + 1) r := by
    rw [← hW]
    have := ((RB.Rec.new (w.alloc (.cells #[.int .u16 c, .int .u8 t, .int .u8 f, .int .u32 (k : Int)] 46)) r hr.1).alloc (.cells (encS s) 53)).alloc (.cells (encS M.s0) 53)
    simpa using this
  have hS : St W (w.heap.size + 1 + 1) 53 s := by
    rw [← hW]
    have := (St.new ((w.alloc (.cells #[.int .u16 c, .int .u8 t, .int .u8 f, .int .u32 (k : Int)] 46)).alloc (.cells (RB.enc r) 36)) 53 s hs.m.1).alloc (.cells (encS M.s0) 53)
    simpa using this
  have hO : St W (w.heap.size + 1 + 1 + 1) 53 M.s0 := by
    rw [← hW]
    have := St.new (((w.alloc (.cells #[.int .u16 c, .int .u8 t, .int .u8 f, .int .u32 (k : Int)] 46)).alloc (.cells (RB.enc r) 36)).alloc (.cells (encS s) 53)) 53 M.s0 rfl
    simpa using this
  obtain ⟨a0, a1, a2, a3, _⟩ := hA.cells
  obtain ⟨s1, s2, s3, s4, s5⟩ := hS.cells
  have hl21 := hS.load
  have hl16 := hRc.load
  have hl4 := hA.load
  have hsz21 := encS_size hs.m.1
  have hsz16 := RB.enc_size hr.1
  have HV := hid (show M.stepI (c, t, f, k) r s = { s with x := R.at_ s.m k, pc := s.pc + 1 } from by rw [M.st6 hkd]; simp)
  have hlu : ({ s with x := R.at_ s.m k } : M.S).m.length = 16 := hs.m.1
  have HC := hid (fun w => mv6 c t f k ok r hr s hs hkd hkm w)
  obtain ⟨u, hu⟩ : ∃ u : M.S, { s with x := R.at_ s.m k } = u := ⟨_, rfl⟩
  have hup : u.pc = (p : Int) := by rw [← hu]; exact hp
  have HU := hid (show { s with x := R.at_ s.m k, pc := s.pc + 1 } = { u with pc := (p : Int) + 1 } by rw [← hu, hp])
  rw [hu] at HC hlu
  clear hu
  go_enter Try.func33, Try.ntmps33
  go_wp2_with fail
  refine (kind_any _ _).mono ?_
  rintro e w1 ⟨rfl, rfl⟩
  rw [hkd]
  go_wp2_with fail
  refine (HC.out _).mono ?_
  rintro e w2 ⟨rfl, hb⟩
  have hszu := encS_size hlu
  have hO2 := hO.below hb
  obtain ⟨W4, hst4, hS4, hoth4, hsize4, hB4⟩ := (hS.below hb).storeK hlu
  have HB4 := hid (hB4 w.heap.size w (by omega) (stp HB hb).out)
  have hO4 : St W4 (w.heap.size + 1 + 1 + 1) 53 M.s0 := ⟨by rw [hoth4 _ (by omega)]; exact hO2.1, hO2.2⟩
  clear hB4 hoth4 hsize4 hb hS hO hO2 HB hA hRc hW hl21 hl16 hl4 a0 a1 a2 a3 s1 s2 s3 s4 s5
  obtain ⟨s1, s2, s3, s4, s5⟩ := hS4.cells
  rw [hup] at s1
  have g0 := hS4.frozen (0)
  have S0 := hS4.setPc ((p : Int) + 1)
  have O0 : St (W4.setCell ⟨w.heap.size + 1 + 1, 0, none⟩ (.int .i64 ((p : Int) + 1))) (w.heap.size + 1 + 1 + 1) 53 M.s0 := ⟨by rw [Below.heap_setCell _ _ _ _ (show w.heap.size + 1 + 1 + 1 ≠ w.heap.size + 1 + 1 by omega)]; exact hO4.1, hO4.2⟩
  have H0 := hid (HB4.out.setCell (p := ⟨w.heap.size + 1 + 1, 0, none⟩) (by simp; omega) (.int .i64 ((p : Int) + 1)))
  obtain ⟨V0, v0⟩ : ∃ V, W4.setCell ⟨w.heap.size + 1 + 1, 0, none⟩ (.int .i64 ((p : Int) + 1)) = V := ⟨_, rfl⟩
  rw [v0] at S0 O0 H0
  obtain ⟨c01, c02, c03, c04, c05⟩ := S0.cells
  simp only at S0 c01 c02 c03 c04 c05
  have hld := S0.load
  have hsz2 := encS_size S0.2
  obtain ⟨W5, hst, hR5, _, _, hB5⟩ := O0.storeK S0.2
  have HB5 := hid (hB5 w.heap.size w (by omega) H0.out)
  have HR5 := hid hR5
  clear hB5 hR5
  clear hS4 hO4 HB4 S0 O0 H0
  go_wp2
  refine bodyPost_ret (v := .agg (encS (M.stepI (c, t, f, k) r s))) ?_ rfl ⟨rfl, HB5.out⟩
  rw [HV.out, HU.out]
  exact results_stK Try.results33 _ rfl HR5.out

set_option maxHeartbeats 3200000 in
set_option maxRecDepth 1000000 in
theorem bh8 (c t f : Int) (k : Nat) (ok : M.okI (c, t, f, k)) (r : List Int) (hr : R.okR r) (s : M.S) (hs : M.okS s) (p : Nat) (hp : s.pc = p) (hpn : p ≤ 65536) (hkd : M.kind c = 8) (hkm : k < 16) (w : World) :
    Calls Try.prog 33 #[.agg #[.int .u16 c, .int .u8 t, .int .u8 f, .int .u32 (k : Int)], .agg (RB.enc r), .agg (encS s)] w fun e w' => e = .returned (.agg (encS (M.stepI (c, t, f, k) r s))) ∧ Below w.heap.size w w' := by
  have hX := RB.lcf_eq
  have hz := s0_lit
  have b3 : 0 ≤ (k : Int) ∧ (k : Int) < 4294967296 := ok.2.2.2
  obtain ⟨W, hW⟩ : ∃ W, (((w.alloc (.cells #[.int .u16 c, .int .u8 t, .int .u8 f, .int .u32 (k : Int)] 46)).alloc (.cells (RB.enc r) 36)).alloc (.cells (encS s) 53)).alloc (.cells (encS M.s0) 53) = W := ⟨_, rfl⟩
  have HB : Hid (Below w.heap.size w W) := by rw [← hW]; exact hid ((((Below.refl _ w).alloc (Nat.le_refl _) _).alloc (by simp) _).alloc (by simp; omega) _ |>.alloc (by simp; omega) _)
  have hA : At W (w.heap.size) c t f k := by rw [← hW]; exact (((At.new w c t f k).alloc _).alloc _).alloc _
  have hRc : RB.Rec W (w.heap.size + 1) r := by
    rw [← hW]
    have := ((RB.Rec.new (w.alloc (.cells #[.int .u16 c, .int .u8 t, .int .u8 f, .int .u32 (k : Int)] 46)) r hr.1).alloc (.cells (encS s) 53)).alloc (.cells (encS M.s0) 53)
    simpa using this
  have hS : St W (w.heap.size + 1 + 1) 53 s := by
    rw [← hW]
    have := (St.new ((w.alloc (.cells #[.int .u16 c, .int .u8 t, .int .u8 f, .int .u32 (k : Int)] 46)).alloc (.cells (RB.enc r) 36)) 53 s hs.m.1).alloc (.cells (encS M.s0) 53)
    simpa using this
  have hO : St W (w.heap.size + 1 + 1 + 1) 53 M.s0 := by
    rw [← hW]
    have := St.new (((w.alloc (.cells #[.int .u16 c, .int .u8 t, .int .u8 f, .int .u32 (k : Int)] 46)).alloc (.cells (RB.enc r) 36)).alloc (.cells (encS s) 53)) 53 M.s0 rfl
    simpa using this
  obtain ⟨a0, a1, a2, a3, _⟩ := hA.cells
  obtain ⟨s1, s2, s3, s4, s5⟩ := hS.cells
  have hl21 := hS.load
  have hl16 := hRc.load
  have hl4 := hA.load
  have hsz21 := encS_size hs.m.1
  have hsz16 := RB.enc_size hr.1
  have HV := hid (show M.stepI (c, t, f, k) r s = { s with m := s.m.set k s.a, pc := s.pc + 1 } from by rw [M.st8 hkd]; simp)
  have hlu : ({ s with m := s.m.set k s.a } : M.S).m.length = 16 := by show (s.m.set _ _).length = 16; rw [List.length_set]; exact hs.m.1
  have HC := hid (fun w => mv8 c t f k ok r hr s hs hkd hkm w)
  obtain ⟨u, hu⟩ : ∃ u : M.S, { s with m := s.m.set k s.a } = u := ⟨_, rfl⟩
  have hup : u.pc = (p : Int) := by rw [← hu]; exact hp
  have HU := hid (show { s with m := s.m.set k s.a, pc := s.pc + 1 } = { u with pc := (p : Int) + 1 } by rw [← hu, hp])
  rw [hu] at HC hlu
  clear hu
  go_enter Try.func33, Try.ntmps33
  go_wp2_with fail
  refine (kind_any _ _).mono ?_
  rintro e w1 ⟨rfl, rfl⟩
  rw [hkd]
  go_wp2_with fail
  refine (HC.out _).mono ?_
  rintro e w2 ⟨rfl, hb⟩
  have hszu := encS_size hlu
  have hO2 := hO.below hb
  obtain ⟨W4, hst4, hS4, hoth4, hsize4, hB4⟩ := (hS.below hb).storeK hlu
  have HB4 := hid (hB4 w.heap.size w (by omega) (stp HB hb).out)
  have hO4 : St W4 (w.heap.size + 1 + 1 + 1) 53 M.s0 := ⟨by rw [hoth4 _ (by omega)]; exact hO2.1, hO2.2⟩
  clear hB4 hoth4 hsize4 hb hS hO hO2 HB hA hRc hW hl21 hl16 hl4 a0 a1 a2 a3 s1 s2 s3 s4 s5
  obtain ⟨s1, s2, s3, s4, s5⟩ := hS4.cells
  rw [hup] at s1
  have g0 := hS4.frozen (0)
  have S0 := hS4.setPc ((p : Int) + 1)
  have O0 : St (W4.setCell ⟨w.heap.size + 1 + 1, 0, none⟩ (.int .i64 ((p : Int) + 1))) (w.heap.size + 1 + 1 + 1) 53 M.s0 := ⟨by rw [Below.heap_setCell _ _ _ _ (show w.heap.size + 1 + 1 + 1 ≠ w.heap.size + 1 + 1 by omega)]; exact hO4.1, hO4.2⟩
  have H0 := hid (HB4.out.setCell (p := ⟨w.heap.size + 1 + 1, 0, none⟩) (by simp; omega) (.int .i64 ((p : Int) + 1)))
  obtain ⟨V0, v0⟩ : ∃ V, W4.setCell ⟨w.heap.size + 1 + 1, 0, none⟩ (.int .i64 ((p : Int) + 1)) = V := ⟨_, rfl⟩
  rw [v0] at S0 O0 H0
  obtain ⟨c01, c02, c03, c04, c05⟩ := S0.cells
  simp only at S0 c01 c02 c03 c04 c05
  have hld := S0.load
  have hsz2 := encS_size S0.2
  obtain ⟨W5, hst, hR5, _, _, hB5⟩ := O0.storeK S0.2
  have HB5 := hid (hB5 w.heap.size w (by omega) H0.out)
  have HR5 := hid hR5
  clear hB5 hR5
  clear hS4 hO4 HB4 S0 O0 H0
  go_wp2
  refine bodyPost_ret (v := .agg (encS (M.stepI (c, t, f, k) r s))) ?_ rfl ⟨rfl, HB5.out⟩
  rw [HV.out, HU.out]
  exact results_stK Try.results33 _ rfl HR5.out

set_option maxHeartbeats 3200000 in
set_option maxRecDepth 1000000 in
theorem bh9 (c t f : Int) (k : Nat) (ok : M.okI (c, t, f, k)) (r : List Int) (hr : R.okR r) (s : M.S) (hs : M.okS s) (p : Nat) (hp : s.pc = p) (hpn : p ≤ 65536) (hkd : M.kind c = 9) (hkm : k < 16) (w : World) :
    Calls Try.prog 33 #[.agg #[.int .u16 c, .int .u8 t, .int .u8 f, .int .u32 (k : Int)], .agg (RB.enc r), .agg (encS s)] w fun e w' => e = .returned (.agg (encS (M.stepI (c, t, f, k) r s))) ∧ Below w.heap.size w w' := by
  have hX := RB.lcf_eq
  have hz := s0_lit
  have b3 : 0 ≤ (k : Int) ∧ (k : Int) < 4294967296 := ok.2.2.2
  obtain ⟨W, hW⟩ : ∃ W, (((w.alloc (.cells #[.int .u16 c, .int .u8 t, .int .u8 f, .int .u32 (k : Int)] 46)).alloc (.cells (RB.enc r) 36)).alloc (.cells (encS s) 53)).alloc (.cells (encS M.s0) 53) = W := ⟨_, rfl⟩
  have HB : Hid (Below w.heap.size w W) := by rw [← hW]; exact hid ((((Below.refl _ w).alloc (Nat.le_refl _) _).alloc (by simp) _).alloc (by simp; omega) _ |>.alloc (by simp; omega) _)
  have hA : At W (w.heap.size) c t f k := by rw [← hW]; exact (((At.new w c t f k).alloc _).alloc _).alloc _
  have hRc : RB.Rec W (w.heap.size + 1) r := by
    rw [← hW]
    have := ((RB.Rec.new (w.alloc (.cells #[.int .u16 c, .int .u8 t, .int .u8 f, .int .u32 (k : Int)] 46)) r hr.1).alloc (.cells (encS s) 53)).alloc (.cells (encS M.s0) 53)
    simpa using this
  have hS : St W (w.heap.size + 1 + 1) 53 s := by
    rw [← hW]
    have := (St.new ((w.alloc (.cells #[.int .u16 c, .int .u8 t, .int .u8 f, .int .u32 (k : Int)] 46)).alloc (.cells (RB.enc r) 36)) 53 s hs.m.1).alloc (.cells (encS M.s0) 53)
    simpa using this
  have hO : St W (w.heap.size + 1 + 1 + 1) 53 M.s0 := by
    rw [← hW]
    have := St.new (((w.alloc (.cells #[.int .u16 c, .int .u8 t, .int .u8 f, .int .u32 (k : Int)] 46)).alloc (.cells (RB.enc r) 36)).alloc (.cells (encS s) 53)) 53 M.s0 rfl
    simpa using this
  obtain ⟨a0, a1, a2, a3, _⟩ := hA.cells
  obtain ⟨s1, s2, s3, s4, s5⟩ := hS.cells
  have hl21 := hS.load
  have hl16 := hRc.load
  have hl4 := hA.load
  have hsz21 := encS_size hs.m.1
  have hsz16 := RB.enc_size hr.1
  have HV := hid (show M.stepI (c, t, f, k) r s = { s with m := s.m.set k s.x, pc := s.pc + 1 } from by rw [M.st9 hkd]; simp)
  have hlu : ({ s with m := s.m.set k s.x } : M.S).m.length = 16 := by show (s.m.set _ _).length = 16; rw [List.length_set]; exact hs.m.1
  have HC := hid (fun w => mv9 c t f k ok r hr s hs hkd hkm w)
  obtain ⟨u, hu⟩ : ∃ u : M.S, { s with m := s.m.set k s.x } = u := ⟨_, rfl⟩
  have hup : u.pc = (p : Int) := by rw [← hu]; exact hp
  have HU := hid (show { s with m := s.m.set k s.x, pc := s.pc + 1 } = { u with pc := (p : Int) + 1 } by rw [← hu, hp])
  rw [hu] at HC hlu
  clear hu
  go_enter Try.func33, Try.ntmps33
  go_wp2_with fail
  refine (kind_any _ _).mono ?_
  rintro e w1 ⟨rfl, rfl⟩
  rw [hkd]
  go_wp2_with fail
  refine (HC.out _).mono ?_
  rintro e w2 ⟨rfl, hb⟩
  have hszu := encS_size hlu
  have hO2 := hO.below hb
  obtain ⟨W4, hst4, hS4, hoth4, hsize4, hB4⟩ := (hS.below hb).storeK hlu
  have HB4 := hid (hB4 w.heap.size w (by omega) (stp HB hb).out)
  have hO4 : St W4 (w.heap.size + 1 + 1 + 1) 53 M.s0 := ⟨by rw [hoth4 _ (by omega)]; exact hO2.1, hO2.2⟩
  clear hB4 hoth4 hsize4 hb hS hO hO2 HB hA hRc hW hl21 hl16 hl4 a0 a1 a2 a3 s1 s2 s3 s4 s5
  obtain ⟨s1, s2, s3, s4, s5⟩ := hS4.cells
  rw [hup] at s1
  have g0 := hS4.frozen (0)
  have S0 := hS4.setPc ((p : Int) + 1)
  have O0 : St (W4.setCell ⟨w.heap.size + 1 + 1, 0, none⟩ (.int .i64 ((p : Int) + 1))) (w.heap.size + 1 + 1 + 1) 53 M.s0 := ⟨by rw [Below.heap_setCell _ _ _ _ (show w.heap.size + 1 + 1 + 1 ≠ w.heap.size + 1 + 1 by omega)]; exact hO4.1, hO4.2⟩
  have H0 := hid (HB4.out.setCell (p := ⟨w.heap.size + 1 + 1, 0, none⟩) (by simp; omega) (.int .i64 ((p : Int) + 1)))
  obtain ⟨V0, v0⟩ : ∃ V, W4.setCell ⟨w.heap.size + 1 + 1, 0, none⟩ (.int .i64 ((p : Int) + 1)) = V := ⟨_, rfl⟩
  rw [v0] at S0 O0 H0
  obtain ⟨c01, c02, c03, c04, c05⟩ := S0.cells
  simp only at S0 c01 c02 c03 c04 c05
  have hld := S0.load
  have hsz2 := encS_size S0.2
  obtain ⟨W5, hst, hR5, _, _, hB5⟩ := O0.storeK S0.2
  have HB5 := hid (hB5 w.heap.size w (by omega) H0.out)
  have HR5 := hid hR5
  clear hB5 hR5
  clear hS4 hO4 HB4 S0 O0 H0
  go_wp2
  refine bodyPost_ret (v := .agg (encS (M.stepI (c, t, f, k) r s))) ?_ rfl ⟨rfl, HB5.out⟩
  rw [HV.out, HU.out]
  exact results_stK Try.results33 _ rfl HR5.out

set_option maxHeartbeats 3200000 in
set_option maxRecDepth 1000000 in
theorem bh1 (c t f : Int) (k : Nat) (ok : M.okI (c, t, f, k)) (r : List Int) (hr : R.okR r) (s : M.S) (hs : M.okS s) (p : Nat) (hp : s.pc = p) (hpn : p ≤ 65536) (hkd : M.kind c = 1) (d : Nat) (hd : k = 4 * d) (hd16 : d < 16) (w : World) :
    Calls Try.prog 33 #[.agg #[.int .u16 c, .int .u8 t, .int .u8 f, .int .u32 (k : Int)], .agg (RB.enc r), .agg (encS s)] w fun e w' => e = .returned (.agg (encS (M.stepI (c, t, f, k) r s))) ∧ Below w.heap.size w w' := by
  have hX := RB.lcf_eq
  have hz := s0_lit
  have b3 : 0 ≤ (k : Int) ∧ (k : Int) < 4294967296 := ok.2.2.2
  obtain ⟨W, hW⟩ : ∃ W, (((w.alloc (.cells #[.int .u16 c, .int .u8 t, .int .u8 f, .int .u32 (k : Int)] 46)).alloc (.cells (RB.enc r) 36)).alloc (.cells (encS s) 53)).alloc (.cells (encS M.s0) 53) = W := ⟨_, rfl⟩
  have HB : Hid (Below w.heap.size w W) := by rw [← hW]; exact hid ((((Below.refl _ w).alloc (Nat.le_refl _) _).alloc (by simp) _).alloc (by simp; omega) _ |>.alloc (by simp; omega) _)
  have hA : At W (w.heap.size) c t f k := by rw [← hW]; exact (((At.new w c t f k).alloc _).alloc _).alloc _
  have hRc : RB.Rec W (w.heap.size + 1) r := by
    rw [← hW]
    have := ((RB.Rec.new (w.alloc (.cells #[.int .u16 c, .int .u8 t, .int .u8 f, .int .u32 (k : Int)] 46)) r hr.1).alloc (.cells (encS s) 53)).alloc (.cells (encS M.s0) 53)
    simpa using this
  have hS : St W (w.heap.size + 1 + 1) 53 s := by
    rw [← hW]
    have := (St.new ((w.alloc (.cells #[.int .u16 c, .int .u8 t, .int .u8 f, .int .u32 (k : Int)] 46)).alloc (.cells (RB.enc r) 36)) 53 s hs.m.1).alloc (.cells (encS M.s0) 53)
    simpa using this
  have hO : St W (w.heap.size + 1 + 1 + 1) 53 M.s0 := by
    rw [← hW]
    have := St.new (((w.alloc (.cells #[.int .u16 c, .int .u8 t, .int .u8 f, .int .u32 (k : Int)] 46)).alloc (.cells (RB.enc r) 36)).alloc (.cells (encS s) 53)) 53 M.s0 rfl
    simpa using this
  obtain ⟨a0, a1, a2, a3, _⟩ := hA.cells
  obtain ⟨s1, s2, s3, s4, s5⟩ := hS.cells
  have hl21 := hS.load
  have hl16 := hRc.load
  have hl4 := hA.load
  have hsz21 := encS_size hs.m.1
  have hsz16 := RB.enc_size hr.1
  have HV := hid (show M.stepI (c, t, f, k) r s = { s with a := R.at_ r d, pc := s.pc + 1 } from by rw [M.st1 hkd, show ((k : Int) / 4).toNat = d by omega])
  have hlu : ({ s with a := R.at_ r d } : M.S).m.length = 16 := hs.m.1
  have HC := hid (fun w => mv1 c t f k ok r hr s hs hkd d hd hd16 w)
  obtain ⟨u, hu⟩ : ∃ u : M.S, { s with a := R.at_ r d } = u := ⟨_, rfl⟩
  have hup : u.pc = (p : Int) := by rw [← hu]; exact hp
  have HU := hid (show { s with a := R.at_ r d, pc := s.pc + 1 } = { u with pc := (p : Int) + 1 } by rw [← hu, hp])
  rw [hu] at HC hlu
  clear hu hd
  go_enter Try.func33, Try.ntmps33
  go_wp2_with fail
  refine (kind_any _ _).mono ?_
  rintro e w1 ⟨rfl, rfl⟩
  rw [hkd]
  go_wp2_with fail
  refine (HC.out _).mono ?_
  rintro e w2 ⟨rfl, hb⟩
  have hszu := encS_size hlu
  have hO2 := hO.below hb
  obtain ⟨W4, hst4, hS4, hoth4, hsize4, hB4⟩ := (hS.below hb).storeK hlu
  have HB4 := hid (hB4 w.heap.size w (by omega) (stp HB hb).out)
  have hO4 : St W4 (w.heap.size + 1 + 1 + 1) 53 M.s0 := ⟨by rw [hoth4 _ (by omega)]; exact hO2.1, hO2.2⟩
  clear hB4 hoth4 hsize4 hb hS hO hO2 HB hA hRc hW hl21 hl16 hl4 a0 a1 a2 a3 s1 s2 s3 s4 s5
  obtain ⟨s1, s2, s3, s4, s5⟩ := hS4.cells
  rw [hup] at s1
  have g0 := hS4.frozen (0)
  have S0 := hS4.setPc ((p : Int) + 1)
  have O0 : St (W4.setCell ⟨w.heap.size + 1 + 1, 0, none⟩ (.int .i64 ((p : Int) + 1))) (w.heap.size + 1 + 1 + 1) 53 M.s0 := ⟨by rw [Below.heap_setCell _ _ _ _ (show w.heap.size + 1 + 1 + 1 ≠ w.heap.size + 1 + 1 by omega)]; exact hO4.1, hO4.2⟩
  have H0 := hid (HB4.out.setCell (p := ⟨w.heap.size + 1 + 1, 0, none⟩) (by simp; omega) (.int .i64 ((p : Int) + 1)))
  obtain ⟨V0, v0⟩ : ∃ V, W4.setCell ⟨w.heap.size + 1 + 1, 0, none⟩ (.int .i64 ((p : Int) + 1)) = V := ⟨_, rfl⟩
  rw [v0] at S0 O0 H0
  obtain ⟨c01, c02, c03, c04, c05⟩ := S0.cells
  simp only at S0 c01 c02 c03 c04 c05
  have hld := S0.load
  have hsz2 := encS_size S0.2
  obtain ⟨W5, hst, hR5, _, _, hB5⟩ := O0.storeK S0.2
  have HB5 := hid (hB5 w.heap.size w (by omega) H0.out)
  have HR5 := hid hR5
  clear hB5 hR5
  clear hS4 hO4 HB4 S0 O0 H0
  go_wp2
  refine bodyPost_ret (v := .agg (encS (M.stepI (c, t, f, k) r s))) ?_ rfl ⟨rfl, HB5.out⟩
  rw [HV.out, HU.out]
  exact results_stK Try.results33 _ rfl HR5.out

set_option maxHeartbeats 3200000 in
set_option maxRecDepth 1000000 in
theorem bh12 (c t f : Int) (k : Nat) (ok : M.okI (c, t, f, k)) (r : List Int) (hr : R.okR r) (s : M.S) (hs : M.okS s) (p : Nat) (hp : s.pc = p) (hpn : p ≤ 65536) (hkd : M.kind c = 12) (v : Nat) (hv : (if WM.ask (M.opI (c, t, f, k)) s.a (M.oth (c, t, f, k) s) = true then t else f) = (v : Int)) (hj : p + 1 + v ≤ 65536) (w : World) :
    Calls Try.prog 33 #[.agg #[.int .u16 c, .int .u8 t, .int .u8 f, .int .u32 (k : Int)], .agg (RB.enc r), .agg (encS s)] w fun e w' => e = .returned (.agg (encS (M.stepI (c, t, f, k) r s))) ∧ Below w.heap.size w w' := by
  have hX := RB.lcf_eq
  have hz := s0_lit
  have b3 : 0 ≤ (k : Int) ∧ (k : Int) < 4294967296 := ok.2.2.2
  obtain ⟨W, hW⟩ : ∃ W, (((w.alloc (.cells #[.int .u16 c, .int .u8 t, .int .u8 f, .int .u32 (k : Int)] 46)).alloc (.cells (RB.enc r) 36)).alloc (.cells (encS s) 53)).alloc (.cells (encS M.s0) 53) = W := ⟨_, rfl⟩
  have HB : Hid (Below w.heap.size w W) := by rw [← hW]; exact hid ((((Below.refl _ w).alloc (Nat.le_refl _) _).alloc (by simp) _).alloc (by simp; omega) _ |>.alloc (by simp; omega) _)
  have hA : At W (w.heap.size) c t f k := by rw [← hW]; exact (((At.new w c t f k).alloc _).alloc _).alloc _
  have hRc : RB.Rec W (w.heap.size + 1) r := by
    rw [← hW]
    have := ((RB.Rec.new (w.alloc (.cells #[.int .u16 c, .int .u8 t, .int .u8 f, .int .u32 (k : Int)] 46)) r hr.1).alloc (.cells (encS s) 53)).alloc (.cells (encS M.s0) 53)
    simpa using this
  have hS : St W (w.heap.size + 1 + 1) 53 s := by
    rw [← hW]
    have := (St.new ((w.alloc (.cells #[.int .u16 c, .int .u8 t, .int .u8 f, .int .u32 (k : Int)] 46)).alloc (.cells (RB.enc r) 36)) 53 s hs.m.1).alloc (.cells (encS M.s0) 53)
    simpa using this
  have hO : St W (w.heap.size + 1 + 1 + 1) 53 M.s0 := by
    rw [← hW]
    have := St.new (((w.alloc (.cells #[.int .u16 c, .int .u8 t, .int .u8 f, .int .u32 (k : Int)] 46)).alloc (.cells (RB.enc r) 36)).alloc (.cells (encS s) 53)) 53 M.s0 rfl
    simpa using this
  obtain ⟨a0, a1, a2, a3, _⟩ := hA.cells
  obtain ⟨s1, s2, s3, s4, s5⟩ := hS.cells
  have hl21 := hS.load
  have hl16 := hRc.load
  have hl4 := hA.load
  have hsz21 := encS_size hs.m.1
  have hsz16 := RB.enc_size hr.1
  have HV := hid (show M.stepI (c, t, f, k) r s = { s with pc := s.pc + 1 + (v : Int) } by rw [M.st12 hkd, hv])
  have HC := hid (fun w => way_any c t f k ok s hs w)
  rw [hv] at HC
  clear hv hl16
  rw [hp] at s1
  go_enter Try.func33, Try.ntmps33
  go_wp2_with fail
  refine (kind_any _ _).mono ?_
  rintro e w1 ⟨rfl, rfl⟩
  rw [hkd]
  go_wp2
  have hd := (Below.refl w1.heap.size w1).drew
  have hSd := hS.below hd
  have hld4 := (hA.below hd).load
  have hld21 := hSd.load
  have HBd := stp HB hd
  have hOd := hO.below hd
  have hwr : IntKind.i64.wrap ((p : Int) + (v : Int)) = (p : Int) + (v : Int) := by rw [IntKind.wrap_i64]; omega
  clear hd hA hS hO HB hl4 hl21 hRc
  go_region_with (go_at_call 51; refine (HC.out _).mono ?_; rintro e w2 ⟨rfl, hb⟩; have hS2 := St.below hSd hb; have hO2 := St.below hOd hb; have q1 := hS2.cells.1; rw [hp] at q1; have q4 := hS2.frozen 0; have HB2 := stp HBd hb; clear hb)
  all_goals
    clear hSd hOd HBd hld4 hld21 HC
    have g0 := hS2.frozen (0)
    have S0 := hS2.setPc ((p : Int) + (v : Int))
    have O0 : St (w2.setCell ⟨w.heap.size + 1 + 1, 0, none⟩ (.int .i64 ((p : Int) + (v : Int)))) (w.heap.size + 1 + 1 + 1) 53 M.s0 := ⟨by rw [Below.heap_setCell _ _ _ _ (show w.heap.size + 1 + 1 + 1 ≠ w.heap.size + 1 + 1 by omega)]; exact hO2.1, hO2.2⟩
    have H0 := hid (HB2.out.setCell (p := ⟨w.heap.size + 1 + 1, 0, none⟩) (by simp; omega) (.int .i64 ((p : Int) + (v : Int))))
    obtain ⟨V0, v0⟩ : ∃ V, w2.setCell ⟨w.heap.size + 1 + 1, 0, none⟩ (.int .i64 ((p : Int) + (v : Int))) = V := ⟨_, rfl⟩
    rw [v0] at S0 O0 H0
    obtain ⟨c01, c02, c03, c04, c05⟩ := S0.cells
    simp only at S0 c01 c02 c03 c04 c05
    have g1 := S0.frozen (0)
    have S1 := S0.setPc ((p : Int) + (v : Int) + 1)
    have O1 : St (V0.setCell ⟨w.heap.size + 1 + 1, 0, none⟩ (.int .i64 ((p : Int) + (v : Int) + 1))) (w.heap.size + 1 + 1 + 1) 53 M.s0 := ⟨by rw [Below.heap_setCell _ _ _ _ (show w.heap.size + 1 + 1 + 1 ≠ w.heap.size + 1 + 1 by omega)]; exact O0.1, O0.2⟩
    have H1 := hid (H0.out.setCell (p := ⟨w.heap.size + 1 + 1, 0, none⟩) (by simp; omega) (.int .i64 ((p : Int) + (v : Int) + 1)))
    obtain ⟨V1, v1⟩ : ∃ V, V0.setCell ⟨w.heap.size + 1 + 1, 0, none⟩ (.int .i64 ((p : Int) + (v : Int) + 1)) = V := ⟨_, rfl⟩
    rw [v1] at S1 O1 H1
    obtain ⟨c11, c12, c13, c14, c15⟩ := S1.cells
    simp only at S1 c11 c12 c13 c14 c15
    have hld := S1.load
    have hsz2 := encS_size S1.2
    obtain ⟨W5, hst, hR5, _, _, hB5⟩ := O1.storeK S1.2
    have HB5 := hid (hB5 w.heap.size w (by omega) H1.out)
    have HR5 := hid hR5
    clear hB5 hR5
    clear hS2 hO2 HB2 S0 O0 H0 S1 O1 H1 q1 q4
    go_wp2
    refine bodyPost_ret (v := .agg (encS (M.stepI (c, t, f, k) r s))) ?_ rfl ⟨rfl, HB5.out⟩
    rw [HV.out, show s.pc + 1 + (v : Int) = (p : Int) + (v : Int) + 1 by omega]
    exact results_stK Try.results33 _ rfl HR5.out

end Go.Proofs.Ytahaooghebmhnaa.B
