/-
  The program's small parts of a step, as walks over the Go text.
-/
import Derived.Test.YtahaooghebmhnaaH6
import Derived.Lib.QuietBelow
import Derived.StillTailTactics
namespace Go.Proofs.Ytahaooghebmhnaa.B
open Go.ChangeShapes Go.WideShapes Go.ChangeAt Go.RowKit
open Go.Sort hiding Below
set_option linter.unusedVariables false

theorem sizeK : (Try.prog.info? 53).map (·.size) = some 21 := by kernel_rfl
theorem St.storeK {W : World} {b : Nat} {s u : M.S} (h : St W b 53 s) (hu : u.m.length = 16) :
    ∃ W2, (storeCells ⟨b, 0, none⟩ (encS u).toList 0).run Try.prog W = .ok () W2 ∧ St W2 b 53 u ∧ (∀ b', b' ≠ b → W2.heap[b']? = W.heap[b']?) ∧ W2.heap.size = W.heap.size ∧ (∀ (B : Nat) (w0 : World), B ≤ b → Below B w0 W → Below B w0 W2) := by
  refine ⟨W.setRow b (encS u), ?_, ⟨setRow_heap W b _ _ _ _ h.1, hu⟩, fun b' hb => setRow_other _ _ _ _ hb, by simp, fun B w0 hB hW => below_setRow hW hB _⟩
  have ho : (encS s).size = (encS u).size := by rw [encS_size h.2, encS_size hu]
  have := run_storeVar_row (P := Try.prog) W b 53 53 (encS s) (encS u) h.1 (by rw [sizeK, encS_size hu]) ho (encS_one u)
  cases hq : Try.prog.info? 53 with
  | none => have := sizeK; simp [hq] at this
  | some i =>
    have hs : i.size = 21 := by have := sizeK; simpa [hq] using this
    have hs2 : (encS u).size = 21 := encS_size hu
    simpa [storeVar, sizeOf, typeInfo, hq, Value.cells, hs, hs2] using this
theorem load_stK {W : World} {b : Nat} {s : M.S} (hS : St W b 53 s) : (loadVar 53 ⟨b, 0, none⟩).run Try.prog W = .ok (.agg (encS s)) W :=
  run_loadVar_row (P := Try.prog) W b 53 53 (encS s) (0, 0) _ hS.1 Try.underlying53 rfl (by rw [sizeK, encS_size hS.2])
theorem results_stK {fn : Func} {p : Tmp} (h : fn.results = #[.cell p 53]) (tmps : Array Value) {W : World} {b : Nat} {s : M.S} (hp : tmps.getD p undef = .pointer (some ⟨b, 0, none⟩)) (hS : St W b 53 s) :
    (results fn tmps).run Try.prog W = .ok (.agg (encS s)) W := by
  have hl := load_stK hS
  have hp' : tmps[p]?.getD undef = .pointer (some ⟨b, 0, none⟩) := by rw [← hp]; simp [Array.getD_eq_getD_getElem?]
  simp [results, h, hp', asAddr, hl]
theorem results_stK2 {fn : Func} {p q : Tmp} (h : fn.results = #[.cell p 53, .tmp q]) (tmps : Array Value) {W : World} {b : Nat} {s : M.S} {v : Value} (hp : tmps.getD p undef = .pointer (some ⟨b, 0, none⟩)) (hq : tmps.getD q undef = v) (hS : St W b 53 s) :
    (results fn tmps).run Try.prog W = .ok (.tuple #[.agg (encS s), v]) W := by
  have hl := load_stK hS
  have hp' : tmps[p]?.getD undef = .pointer (some ⟨b, 0, none⟩) := by rw [← hp]; simp [Array.getD_eq_getD_getElem?]
  have hq' : tmps[q]?.getD undef = v := by rw [← hq]; simp [Array.getD_eq_getD_getElem?]
  simp [results, h, hp', hq', asAddr, hl]

set_option maxHeartbeats 3200000 in
set_option maxRecDepth 1000000 in
theorem ended_any (s : M.S) (v : Int) (hm : s.m.length = 16) (w : World) :
    Calls Try.prog 49 #[.agg (encS s), .int .u32 v] w fun e w' => e = .returned (.agg (encS { s with en := true, an := v })) ∧ Below w.heap.size w w' := by
  have hX := RB.lcf_eq
  have hz := s0_lit
  obtain ⟨W, hW⟩ : ∃ W, (w.alloc (.cells (encS s) 53)).alloc (.cells (encS M.s0) 53) = W := ⟨_, rfl⟩
  have hB0 : Below w.heap.size w W := by rw [← hW]; exact ((Below.refl _ w).alloc (Nat.le_refl _) _).alloc (by simp) _
  have hS : St W w.heap.size 53 s := by
    rw [← hW]; exact (St.new w 53 s hm).alloc _
  have hO : St W (w.heap.size + 1) 53 M.s0 := by
    rw [← hW]
    have := St.new (w.alloc (.cells (encS s) 53)) 53 M.s0 rfl
    simpa using this
  have g0 := hS.frozen 19
  have S0 := hS.setEn true
  have O0 : St (W.setCell ⟨w.heap.size, 19, none⟩ (.bool true)) (w.heap.size + 1) 53 M.s0 := ⟨by rw [Below.heap_setCell _ _ _ _ (show w.heap.size + 1 ≠ w.heap.size by omega)]; exact hO.1, hO.2⟩
  have H0 := hid (hB0.setCell (p := ⟨w.heap.size, 19, none⟩) (by simp) (.bool true))
  obtain ⟨c1, c2, c3, c4, c5⟩ := hS.cells
  obtain ⟨V0, v0⟩ : ∃ V, W.setCell ⟨w.heap.size, 19, none⟩ (.bool true) = V := ⟨_, rfl⟩
  rw [v0] at S0 O0 H0
  obtain ⟨d1, d2, d3, d4, d5⟩ := S0.cells
  have g1 := S0.frozen 20
  have S1 := S0.setAn v
  have O1 : St (V0.setCell ⟨w.heap.size, 20, none⟩ (.int .u32 v)) (w.heap.size + 1) 53 M.s0 := ⟨by rw [Below.heap_setCell _ _ _ _ (show w.heap.size + 1 ≠ w.heap.size by omega)]; exact O0.1, O0.2⟩
  have H1 := hid (H0.out.setCell (p := ⟨w.heap.size, 20, none⟩) (by simp) (.int .u32 v))
  obtain ⟨V1, v1⟩ : ∃ V, V0.setCell ⟨w.heap.size, 20, none⟩ (.int .u32 v) = V := ⟨_, rfl⟩
  rw [v1] at S1 O1 H1
  simp only at S1 d1 d2 d3 d4 d5
  have hld := S1.load
  have hsz2 := encS_size S1.2
  obtain ⟨W5, hst, hR5, _, _, hB5⟩ := O1.storeK S1.2
  have HB5 := hid (hB5 w.heap.size w (by omega) H1.out)
  have HR5 := hid hR5
  clear hB5 hR5 S0 S1 O0 O1 H0 H1 hS hO hB0
  go_enter Try.func49, Try.ntmps49
  go_wp2
  refine bodyPost_ret (v := .agg (encS { s with en := true, an := v })) ?_ rfl ⟨rfl, HB5.out⟩
  exact results_stK Try.results49 _ rfl HR5.out
end Go.Proofs.Ytahaooghebmhnaa.B
namespace Go.Proofs.Ytahaooghebmhnaa.B
open Go.ChangeShapes Go.WideShapes Go.ChangeAt Go.RowKit
open Go.Sort hiding Below
set_option linter.unusedVariables false

set_option maxHeartbeats 3200000 in
set_option maxRecDepth 1000000 in
theorem other_any (c t f k : Int) (ok : M.okI (c, t, f, k)) (s : M.S) (hm : s.m.length = 16) (w : World) :
    Calls Try.prog 61 #[.agg #[.int .u16 c, .int .u8 t, .int .u8 f, .int .u32 k], .agg (encS s)] w fun e w' => e = .returned (.int .u32 (M.oth (c, t, f, k) s)) ∧ Below w.heap.size w w' := by
  obtain ⟨W, hW⟩ : ∃ W, (w.alloc (.cells #[.int .u16 c, .int .u8 t, .int .u8 f, .int .u32 k] 46)).alloc (.cells (encS s) 53) = W := ⟨_, rfl⟩
  have hB0 : Below w.heap.size w W := by rw [← hW]; exact ((Below.refl _ w).alloc (Nat.le_refl _) _).alloc (by simp) _
  have hA : At W w.heap.size c t f k := by rw [← hW]; exact (At.new w c t f k).alloc _
  have hS : St W (w.heap.size + 1) 53 s := by
    rw [← hW]
    have := St.new (w.alloc (.cells #[.int .u16 c, .int .u8 t, .int .u8 f, .int .u32 k] 46)) 53 s hm
    simpa using this
  obtain ⟨a0, a1, a2, a3, _⟩ := hA.cells
  have HO := hid ok
  have HB := hid hB0
  clear ok hB0
  by_cases hb : c / 8 % 2 = 1
  · have hd : decide (c / 8 % 2 = 1) = true := decide_eq_true hb
    have HV := hid (show M.oth (c, t, f, k) s = s.x from if_pos hb)
    clear hb
    go_enter Try.func61, Try.ntmps61
    go_wp2_with fail
    refine (fromx_any _ _ _ _ HO.out _).mono ?_
    rintro e w1 ⟨rfl, hb⟩
    replace hS := hS.below hb
    replace HB := stp HB hb
    clear hb a0 a1 a2 a3 hA hW
    obtain ⟨s1, s2, s3, s4, s5⟩ := hS.cells
    go_wp2
    go_ret
    exact ⟨by rw [HV.out]; rfl, HB.out⟩
  · have hd : decide (c / 8 % 2 = 1) = false := decide_eq_false hb
    have HV := hid (show M.oth (c, t, f, k) s = k from if_neg hb)
    clear hb
    go_enter Try.func61, Try.ntmps61
    go_wp2_with fail
    refine (fromx_any _ _ _ _ HO.out _).mono ?_
    rintro e w1 ⟨rfl, hb⟩
    replace hA := hA.below hb
    replace HB := stp HB hb
    clear hb a0 a1 a2 a3 hS hW
    obtain ⟨a0, a1, a2, a3, _⟩ := hA.cells
    go_wp2
    go_ret
    exact ⟨by rw [HV.out]; rfl, HB.out⟩

theorem At.load {W : World} {b : Nat} {c t f k : Int} (h : At W b c t f k) : (RB.lcf b 4).run Try.prog W = .ok #[.int .u16 c, .int .u8 t, .int .u8 f, .int .u32 k] W := by
  unfold RB.lcf
  obtain ⟨a0, a1, a2, a3, _⟩ := h.cells
  have := run_loadCells_list (P := Try.prog) W ⟨b, 0, none⟩ [.int .u16 c, .int .u8 t, .int .u8 f, .int .u32 k] (fun j v hv => by
    have hadd : (⟨b, 0, none⟩ : Addr).add j = ⟨b, j, none⟩ := by unfold Addr.add; split <;> simp_all
    rw [hadd]
    have hj : j < 4 := (List.getElem?_eq_some_iff.1 hv).1
    have : j = 0 ∨ j = 1 ∨ j = 2 ∨ j = 3 := by omega
    rcases this with rfl | rfl | rfl | rfl
    · rw [a0]; simpa using hv
    · rw [a1]; simpa using hv
    · rw [a2]; simpa using hv
    · rw [a3]; simpa using hv)
  simpa [loadCells] using this
theorem quiet_loadI {W : World} {b : Nat} {c t f k : Int} (h : At W b c t f k) (d : Nat) (os : Array Obj) : (RB.lcf b 4).run Try.prog (grow (redrawn W d) os) = .ok #[.int .u16 c, .int .u8 t, .int .u8 f, .int .u32 k] (grow (redrawn W d) os) :=
  (h.below (below_regrown W d os)).load
/-- the calls of a region, in every world that it may meet -/
theorem quiet_op (c t f k : Int) (ok : M.okI (c, t, f, k)) (W : World) (d : Nat) (os : Array Obj) :
    Calls Try.prog 60 #[.agg #[.int .u16 c, .int .u8 t, .int .u8 f, .int .u32 k]] (grow (redrawn W d) os) fun e w' => e = .returned (.int .i64 (c / 16 % 16 * 16)) ∧ ∃ p : Regrown, w' = grow (redrawn W p.d) p.os :=
  (op_any c t f k ok _).regrown_of
theorem quiet_other (c t f k : Int) (ok : M.okI (c, t, f, k)) (s : M.S) (hm : s.m.length = 16) (W : World) (d : Nat) (os : Array Obj) :
    Calls Try.prog 61 #[.agg #[.int .u16 c, .int .u8 t, .int .u8 f, .int .u32 k], .agg (encS s)] (grow (redrawn W d) os) fun e w' => e = .returned (.int .u32 (M.oth (c, t, f, k) s)) ∧ ∃ p : Regrown, w' = grow (redrawn W p.d) p.os :=
  (other_any c t f k ok s hm _).regrown_of
theorem quiet_alu (op a b : Int) (ha : 0 ≤ a) (ha2 : a < 4294967296) (hb : 0 ≤ b) (W : World) (d : Nat) (os : Array Obj) :
    Calls Try.prog 59 #[.int .i64 op, .int .u32 a, .int .u32 b] (grow (redrawn W d) os) fun e w' => e = .returned (.tuple #[.int .u32 (WM.val op a b), .bool (WM.ok op b)]) ∧ ∃ p : Regrown, w' = grow (redrawn W p.d) p.os :=
  ((WB.alu_any op a b ha ha2 hb _).mono fun e w' h => ⟨h.1, h.2 ▸ Below.refl _ _⟩).regrown_of
theorem quiet_ask (op a b : Int) (W : World) (d : Nat) (os : Array Obj) :
    Calls Try.prog 62 #[.int .i64 op, .int .u32 a, .int .u32 b] (grow (redrawn W d) os) fun e w' => e = .returned (.bool (WM.ask op a b)) ∧ ∃ p : Regrown, w' = grow (redrawn W p.d) p.os :=
  ((WB.ask_any op a b _).mono fun e w' h => ⟨h.1, h.2 ▸ Below.refl _ _⟩).regrown_of
theorem quiet_load {W : World} {b : Nat} {t : TypeId} {s : M.S} (h : St W b t s) (d : Nat) (os : Array Obj) : (RB.lcf b 21).run Try.prog (grow (redrawn W d) os) = .ok (encS s) (grow (redrawn W d) os) :=
  (h.below (below_regrown W d os)).load
theorem oth_bd {i : M.I} (ok : M.okI i) {s : M.S} (hs : M.okS s) : 0 ≤ M.oth i s ∧ M.oth i s < 4294967296 := by
  unfold M.oth
  split
  · exact hs.x
  · exact ok.2.2.2

set_option maxHeartbeats 3200000 in
set_option maxRecDepth 1000000 in
theorem way_any (c t f k : Int) (ok : M.okI (c, t, f, k)) (s : M.S) (hs : M.okS s) (w : World) :
    Calls Try.prog 51 #[.agg #[.int .u16 c, .int .u8 t, .int .u8 f, .int .u32 k], .agg (encS s)] w fun e w' => e = .returned (.int .i64 (if WM.ask (M.opI (c, t, f, k)) s.a (M.oth (c, t, f, k) s) = true then t else f)) ∧ Below w.heap.size w w' := by
  have hX := RB.lcf_eq
  obtain ⟨W, hW⟩ : ∃ W, (w.alloc (.cells #[.int .u16 c, .int .u8 t, .int .u8 f, .int .u32 k] 46)).alloc (.cells (encS s) 53) = W := ⟨_, rfl⟩
  have hB0 : Below w.heap.size w W := by rw [← hW]; exact ((Below.refl _ w).alloc (Nat.le_refl _) _).alloc (by simp) _
  have hA : At W w.heap.size c t f k := by rw [← hW]; exact (At.new w c t f k).alloc _
  have hS : St W (w.heap.size + 1) 53 s := by
    rw [← hW]
    have := St.new (w.alloc (.cells #[.int .u16 c, .int .u8 t, .int .u8 f, .int .u32 k] 46)) 53 s hs.m.1
    simpa using this
  obtain ⟨a0, a1, a2, a3, _⟩ := hA.cells
  obtain ⟨s1, s2, s3, s4, s5⟩ := hS.cells
  have HO := hid ok
  have HB := hid hB0
  have b1 : 0 ≤ t ∧ t < 256 := ok.2.1
  have b2 : 0 ≤ f ∧ f < 256 := ok.2.2.1
  have HC1 := hid (quiet_op c t f k ok W)
  have HC2 := hid (quiet_other c t f k ok s hs.m.1 W)
  have HC3 := hid (quiet_ask (c / 16 % 16 * 16) s.a (M.oth (c, t, f, k) s) W)
  obtain ⟨q, hq⟩ : ∃ q, WM.ask (c / 16 % 16 * 16) s.a (M.oth (c, t, f, k) s) = q := ⟨_, rfl⟩
  obtain ⟨v, hv⟩ : ∃ v, (if WM.ask (M.opI (c, t, f, k)) s.a (M.oth (c, t, f, k) s) = true then t else f) = v := ⟨_, rfl⟩
  rw [hv]
  have HV := hid (show (if q = true then t else f) = v by rw [← hv, ← hq]; rfl)
  clear hv
  rw [hq] at HC3
  have hld := quiet_load hS
  have hld4 := quiet_loadI hA
  have hsz := encS_size hs.m.1
  have k0 := cell_regrown a0
  have k1 := cell_regrown a1
  have k2 := cell_regrown a2
  have k3 := cell_regrown a3
  have k4 := cell_regrown s2
  clear ok hB0 hs hq
  go_enter Try.func51, Try.ntmps51
  go_wp2_with fail
  refine wp_region_quiet_below (by kernel_rfl) (by kernel_rfl) ?_
  repeat (quiet_step (first | exact HC1.out _ _ | exact HC2.out _ _ | exact HC3.out _ _))
  refine wpQuiet_nil ?_
  intro w2 hw2
  have hb : Below W.heap.size W w2 := by obtain ⟨⟨d, os⟩, rfl⟩ := hw2; exact below_regrown _ _ _
  replace hA := hA.below hb
  replace HB := stp HB hb
  clear hb hw2 k0 k1 k2 k3 k4 HC1 HC2 HC3 a0 a1 a2 a3 s1 s2 s3 s4 s5 hld hld4 hS hW
  obtain ⟨a0, a1, a2, a3, _⟩ := hA.cells
  cases q
  all_goals
    go_wp2
    go_ret
    exact ⟨by rw [← HV.out]; rfl, HB.out⟩

set_option maxHeartbeats 3200000 in
set_option maxRecDepth 1000000 in
theorem reckoned_any (c t f k : Int) (ok : M.okI (c, t, f, k)) (s : M.S) (hs : M.okS s) (p : Nat) (hp : s.pc = p) (hpn : p ≤ 65536) (q : Bool) (hq : WM.ok (M.opI (c, t, f, k)) (M.oth (c, t, f, k) s) = q) (w : World) :
    Calls Try.prog 50 #[.agg #[.int .u16 c, .int .u8 t, .int .u8 f, .int .u32 k], .agg (encS s)] w fun e w' => e = .returned (.agg (encS (cond q { s with a := WM.val (M.opI (c, t, f, k)) s.a (M.oth (c, t, f, k) s), pc := s.pc + 1 } { s with a := WM.val (M.opI (c, t, f, k)) s.a (M.oth (c, t, f, k) s), en := true, an := 0 }))) ∧ Below w.heap.size w w' := by
  have hX := RB.lcf_eq
  have hz := s0_lit
  have hv0 : M.opI (c, t, f, k) = c / 16 % 16 * 16 := rfl
  rw [hv0] at hq ⊢
  obtain ⟨W, hW⟩ : ∃ W, ((w.alloc (.cells #[.int .u16 c, .int .u8 t, .int .u8 f, .int .u32 k] 46)).alloc (.cells (encS s) 53)).alloc (.cells (encS M.s0) 53) = W := ⟨_, rfl⟩
  have hB0 : Below w.heap.size w W := by rw [← hW]; exact (((Below.refl _ w).alloc (Nat.le_refl _) _).alloc (by simp) _).alloc (by simp; omega) _
  have hA : At W w.heap.size c t f k := by rw [← hW]; exact ((At.new w c t f k).alloc _).alloc _
  have hS : St W (w.heap.size + 1) 53 s := by
    rw [← hW]
    have := (St.new (w.alloc (.cells #[.int .u16 c, .int .u8 t, .int .u8 f, .int .u32 k] 46)) 53 s hs.m.1).alloc (.cells (encS M.s0) 53)
    simpa using this
  have hO : St W (w.heap.size + 1 + 1) 53 M.s0 := by
    rw [← hW]
    have := St.new ((w.alloc (.cells #[.int .u16 c, .int .u8 t, .int .u8 f, .int .u32 k] 46)).alloc (.cells (encS s) 53)) 53 M.s0 rfl
    simpa using this
  obtain ⟨a0, a1, a2, a3, _⟩ := hA.cells
  obtain ⟨s1, s2, s3, s4, s5⟩ := hS.cells
  have HB := hid hB0
  have HC1 := hid (quiet_op c t f k ok W)
  have HC2 := hid (quiet_other c t f k ok s hs.m.1 W)
  have HC3 := hid (quiet_alu (c / 16 % 16 * 16) s.a (M.oth (c, t, f, k) s) hs.a.1 hs.a.2 (oth_bd ok hs).1 W)
  rw [hq] at HC3
  obtain ⟨v, hv⟩ : ∃ v, WM.val (c / 16 % 16 * 16) s.a (M.oth (c, t, f, k) s) = v := ⟨_, rfl⟩
  rw [hv] at HC3 ⊢
  have hld := quiet_load hS
  have hld4 := quiet_loadI hA
  have hsz := encS_size hs.m.1
  have hlm := hs.m.1
  have k0 := cell_regrown a0
  have k1 := cell_regrown a1
  have k2 := cell_regrown a2
  have k3 := cell_regrown a3
  have k4 := cell_regrown s2
  clear hB0 hq hv hv0
  go_enter Try.func50, Try.ntmps50
  go_wp2_with fail
  refine wp_region_quiet_below (by kernel_rfl) (by kernel_rfl) ?_
  repeat (quiet_step (first | exact HC1.out _ _ | exact HC2.out _ _ | exact HC3.out _ _))
  refine wpQuiet_nil ?_
  intro w2 hw2
  have hb : Below W.heap.size W w2 := by obtain ⟨⟨d, os⟩, rfl⟩ := hw2; exact below_regrown _ _ _
  replace hS := hS.below hb
  replace hO := hO.below hb
  replace HB := stp HB hb
  clear hb hw2 k0 k1 k2 k3 k4 HC1 HC2 HC3 a0 a1 a2 a3 s1 s2 s3 s4 s5 hld hld4 hA hW hs ok
  obtain ⟨s1, s2, s3, s4, s5⟩ := hS.cells
  rw [hp] at s1
  have g0 := hS.frozen 1
  have S0 := hS.setA v
  have O0 : St (w2.setCell ⟨w.heap.size + 1, 1, none⟩ (.int .u32 v)) (w.heap.size + 1 + 1) 53 M.s0 := ⟨by rw [Below.heap_setCell _ _ _ _ (show w.heap.size + 1 + 1 ≠ w.heap.size + 1 by omega)]; exact hO.1, hO.2⟩
  have H0 := hid (HB.out.setCell (p := ⟨w.heap.size + 1, 1, none⟩) (by simp) (.int .u32 v))
  obtain ⟨V0, v0⟩ : ∃ V, w2.setCell ⟨w.heap.size + 1, 1, none⟩ (.int .u32 v) = V := ⟨_, rfl⟩
  rw [v0] at S0 O0 H0
  obtain ⟨d1, d2, d3, d4, d5⟩ := S0.cells
  simp only at S0 d1 d2 d3 d4 d5
  rw [hp] at d1
  clear hS hO HB
  cases q
  · have hld := S0.load
    have hsz2 := encS_size S0.2
    clear hp
    go_wp2_with fail
    refine (ended_any _ 0 S0.2 _).mono ?_
    rintro e w3 ⟨rfl, hb⟩
    have hsz3 := encS_size (s := { s with a := v, en := true, an := 0 }) hlm
    obtain ⟨W5, hst, hR5, _, _, hB5⟩ := (O0.below hb).storeK (u := { s with a := v, en := true, an := 0 }) hlm
    have HB5 := hid (hB5 w.heap.size w (by omega) (stp H0 hb).out)
    have HR5 := hid hR5
    clear hB5 hR5 hb S0 O0 H0 hld s1 s2 s3 s4 s5 d1 d2 d3 d4 d5
    go_wp2
    refine bodyPost_ret (v := .agg (encS { s with a := v, en := true, an := 0 })) ?_ rfl ⟨rfl, HB5.out⟩
    exact results_stK Try.results50 _ rfl HR5.out
  · have g1 := S0.frozen 0
    have S1 := S0.setPc ((p : Int) + 1)
    have O1 : St (V0.setCell ⟨w.heap.size + 1, 0, none⟩ (.int .i64 ((p : Int) + 1))) (w.heap.size + 1 + 1) 53 M.s0 := ⟨by rw [Below.heap_setCell _ _ _ _ (show w.heap.size + 1 + 1 ≠ w.heap.size + 1 by omega)]; exact O0.1, O0.2⟩
    have H1 := hid (H0.out.setCell (p := ⟨w.heap.size + 1, 0, none⟩) (by simp) (.int .i64 ((p : Int) + 1)))
    obtain ⟨V1, v1⟩ : ∃ V, V0.setCell ⟨w.heap.size + 1, 0, none⟩ (.int .i64 ((p : Int) + 1)) = V := ⟨_, rfl⟩
    rw [v1] at S1 O1 H1
    simp only at S1
    have hld := S1.load
    have hsz2 := encS_size S1.2
    obtain ⟨W5, hst, hR5, _, _, hB5⟩ := O1.storeK S1.2
    have HB5 := hid (hB5 w.heap.size w (by omega) H1.out)
    have HR5 := hid hR5
    clear hB5 hR5 S0 O0 H0 S1 O1 H1
    go_wp2
    refine bodyPost_ret (v := .agg (encS { s with a := v, pc := s.pc + 1 })) ?_ rfl ⟨rfl, HB5.out⟩
    refine results_stK Try.results50 _ rfl ?_
    have := HR5.out
    rw [← hp] at this
    exact this
end Go.Proofs.Ytahaooghebmhnaa.B
namespace Go.Proofs.Ytahaooghebmhnaa.B
open Go.ChangeShapes Go.WideShapes Go.ChangeAt Go.RowKit
open Go.Sort hiding Below
set_option linter.unusedVariables false

set_option maxHeartbeats 3200000 in
set_option maxRecDepth 1000000 in
theorem mv2 (c t f : Int) (k : Nat) (ok : M.okI (c, t, f, k)) (r : List Int) (hr : R.okR r) (s : M.S) (hs : M.okS s) (hkd : M.kind c = 2) (w : World) :
    Calls Try.prog 52 #[.agg #[.int .u16 c, .int .u8 t, .int .u8 f, .int .u32 (k : Int)], .agg (RB.enc r), .agg (encS s)] w fun e w' => e = .returned (.agg (encS { s with a := 64 })) ∧ Below w.heap.size w w' := by
  have hX := RB.lcf_eq
  have hz := s0_lit
  have b3 : 0 ≤ (k : Int) ∧ (k : Int) < 4294967296 := ok.2.2.2
  obtain ⟨W, hW⟩ : ∃ W, (((w.alloc (.cells #[.int .u16 c, .int .u8 t, .int .u8 f, .int .u32 (k : Int)] 46)).alloc (.cells (RB.enc r) 36)).alloc (.cells (encS s) 53)).alloc (.cells (encS M.s0) 53) = W := ⟨_, rfl⟩
  have HB : Hid (Below w.heap.size w W) := by rw [← hW]; exact hid ((((Below.refl _ w).alloc (Nat.le_refl _) _).alloc (by simp) _).alloc (by simp; omega) _ |>.alloc (by simp; omega) _)
  have hA : At W (w.heap.size) c t f k := by rw [← hW]; exact (((At.new w c t f k).alloc _).alloc _).alloc _
  have hRc : RB.Rec W (w.heap.size + 1) r := by
    rw [← hW]
    have := ((RB.Rec.new (w.alloc (.cells #[.int .u16 c, .int .u8 t, .int .u8 f, .int .u32 (k : Int)] 46)) r hr.1).alloc (.cells (encS s) 53)).alloc (.cells (encS M.s0) 53)
    simpa using this
  have hS : St W (w.heap.size + 1 + 1) 53 s := by
    rw [← hW]
    have := (St.new ((w.alloc (.cells #[.int .u16 c, .int .u8 t, .int .u8 f, .int .u32 (k : Int)] 46)).alloc (.cells (RB.enc r) 36)) 53 s hs.m.1).alloc (.cells (encS M.s0) 53)
    simpa using this
  have hO : St W (w.heap.size + 1 + 1 + 1) 53 M.s0 := by
    rw [← hW]
    have := St.new (((w.alloc (.cells #[.int .u16 c, .int .u8 t, .int .u8 f, .int .u32 (k : Int)] 46)).alloc (.cells (RB.enc r) 36)).alloc (.cells (encS s) 53)) 53 M.s0 rfl
    simpa using this
  obtain ⟨a0, a1, a2, a3, _⟩ := hA.cells
  obtain ⟨s1, s2, s3, s4, s5⟩ := hS.cells
  have g0 := hS.frozen (1)
  have S0 := hS.setA 64
  have O0 : St (W.setCell ⟨w.heap.size + 1 + 1, 1, none⟩ (.int .u32 64)) (w.heap.size + 1 + 1 + 1) 53 M.s0 := ⟨by rw [Below.heap_setCell _ _ _ _ (show w.heap.size + 1 + 1 + 1 ≠ w.heap.size + 1 + 1 by omega)]; exact hO.1, hO.2⟩
  have H0 := hid (HB.out.setCell (p := ⟨w.heap.size + 1 + 1, 1, none⟩) (by simp; omega) (.int .u32 64))
  obtain ⟨V0, v0⟩ : ∃ V, W.setCell ⟨w.heap.size + 1 + 1, 1, none⟩ (.int .u32 64) = V := ⟨_, rfl⟩
  rw [v0] at S0 O0 H0
  have hld := S0.load
  have hsz2 := encS_size S0.2
  obtain ⟨W5, hst, hR5, _, _, hB5⟩ := O0.storeK S0.2
  have HB5 := hid (hB5 w.heap.size w (by omega) H0.out)
  have HR5 := hid hR5
  clear hB5 hR5 S0 O0 H0 hO HB
  go_enter Try.func52, Try.ntmps52
  go_wp2_with fail
  refine (kind_any _ _).mono ?_
  rintro e w1 ⟨rfl, rfl⟩
  rw [hkd]
  go_wp2
  refine bodyPost_ret (v := .agg (encS { s with a := 64 })) ?_ rfl ⟨rfl, HB5.out⟩
  exact results_stK Try.results52 _ rfl HR5.out

set_option maxHeartbeats 3200000 in
set_option maxRecDepth 1000000 in
theorem mv3 (c t f : Int) (k : Nat) (ok : M.okI (c, t, f, k)) (r : List Int) (hr : R.okR r) (s : M.S) (hs : M.okS s) (hkd : M.kind c = 3) (w : World) :
    Calls Try.prog 52 #[.agg #[.int .u16 c, .int .u8 t, .int .u8 f, .int .u32 (k : Int)], .agg (RB.enc r), .agg (encS s)] w fun e w' => e = .returned (.agg (encS { s with a := (k : Int) })) ∧ Below w.heap.size w w' := by
  have hX := RB.lcf_eq
  have hz := s0_lit
  have b3 : 0 ≤ (k : Int) ∧ (k : Int) < 4294967296 := ok.2.2.2
  obtain ⟨W, hW⟩ : ∃ W, (((w.alloc (.cells #[.int .u16 c, .int .u8 t, .int .u8 f, .int .u32 (k : Int)] 46)).alloc (.cells (RB.enc r) 36)).alloc (.cells (encS s) 53)).alloc (.cells (encS M.s0) 53) = W := ⟨_, rfl⟩
  have HB : Hid (Below w.heap.size w W) := by rw [← hW]; exact hid ((((Below.refl _ w).alloc (Nat.le_refl _) _).alloc (by simp) _).alloc (by simp; omega) _ |>.alloc (by simp; omega) _)
  have hA : At W (w.heap.size) c t f k := by rw [← hW]; exact (((At.new w c t f k).alloc _).alloc _).alloc _
  have hRc : RB.Rec W (w.heap.size + 1) r := by
    rw [← hW]
    have := ((RB.Rec.new (w.alloc (.cells #[.int .u16 c, .int .u8 t, .int .u8 f, .int .u32 (k : Int)] 46)) r hr.1).alloc (.cells (encS s) 53)).alloc (.cells (encS M.s0) 53)
    simpa using this
  have hS : St W (w.heap.size + 1 + 1) 53 s := by
    rw [← hW]
    have := (St.new ((w.alloc (.cells #[.int .u16 c, .int .u8 t, .int .u8 f, .int .u32 (k : Int)] 46)).alloc (.cells (RB.enc r) 36)) 53 s hs.m.1).alloc (.cells (encS M.s0) 53)
    simpa using this
  have hO : St W (w.heap.size + 1 + 1 + 1) 53 M.s0 := by
    rw [← hW]
    have := St.new (((w.alloc (.cells #[.int .u16 c, .int .u8 t, .int .u8 f, .int .u32 (k : Int)] 46)).alloc (.cells (RB.enc r) 36)).alloc (.cells (encS s) 53)) 53 M.s0 rfl
    simpa using this
  obtain ⟨a0, a1, a2, a3, _⟩ := hA.cells
  obtain ⟨s1, s2, s3, s4, s5⟩ := hS.cells
  have g0 := hS.frozen (1)
  have S0 := hS.setA k
  have O0 : St (W.setCell ⟨w.heap.size + 1 + 1, 1, none⟩ (.int .u32 (k : Int))) (w.heap.size + 1 + 1 + 1) 53 M.s0 := ⟨by rw [Below.heap_setCell _ _ _ _ (show w.heap.size + 1 + 1 + 1 ≠ w.heap.size + 1 + 1 by omega)]; exact hO.1, hO.2⟩
  have H0 := hid (HB.out.setCell (p := ⟨w.heap.size + 1 + 1, 1, none⟩) (by simp; omega) (.int .u32 (k : Int)))
  obtain ⟨V0, v0⟩ : ∃ V, W.setCell ⟨w.heap.size + 1 + 1, 1, none⟩ (.int .u32 (k : Int)) = V := ⟨_, rfl⟩
  rw [v0] at S0 O0 H0
  have hld := S0.load
  have hsz2 := encS_size S0.2
  obtain ⟨W5, hst, hR5, _, _, hB5⟩ := O0.storeK S0.2
  have HB5 := hid (hB5 w.heap.size w (by omega) H0.out)
  have HR5 := hid hR5
  clear hB5 hR5 S0 O0 H0 hO HB
  go_enter Try.func52, Try.ntmps52
  go_wp2_with fail
  refine (kind_any _ _).mono ?_
  rintro e w1 ⟨rfl, rfl⟩
  rw [hkd]
  go_wp2
  refine bodyPost_ret (v := .agg (encS { s with a := (k : Int) })) ?_ rfl ⟨rfl, HB5.out⟩
  exact results_stK Try.results52 _ rfl HR5.out

set_option maxHeartbeats 3200000 in
set_option maxRecDepth 1000000 in
theorem mv5 (c t f : Int) (k : Nat) (ok : M.okI (c, t, f, k)) (r : List Int) (hr : R.okR r) (s : M.S) (hs : M.okS s) (hkd : M.kind c = 5) (w : World) :
    Calls Try.prog 52 #[.agg #[.int .u16 c, .int .u8 t, .int .u8 f, .int .u32 (k : Int)], .agg (RB.enc r), .agg (encS s)] w fun e w' => e = .returned (.agg (encS { s with x := (k : Int) })) ∧ Below w.heap.size w w' := by
  have hX := RB.lcf_eq
  have hz := s0_lit
  have b3 : 0 ≤ (k : Int) ∧ (k : Int) < 4294967296 := ok.2.2.2
  obtain ⟨W, hW⟩ : ∃ W, (((w.alloc (.cells #[.int .u16 c, .int .u8 t, .int .u8 f, .int .u32 (k : Int)] 46)).alloc (.cells (RB.enc r) 36)).alloc (.cells (encS s) 53)).alloc (.cells (encS M.s0) 53) = W := ⟨_, rfl⟩
  have HB : Hid (Below w.heap.size w W) := by rw [← hW]; exact hid ((((Below.refl _ w).alloc (Nat.le_refl _) _).alloc (by simp) _).alloc (by simp; omega) _ |>.alloc (by simp; omega) _)
  have hA : At W (w.heap.size) c t f k := by rw [← hW]; exact (((At.new w c t f k).alloc _).alloc _).alloc _
  have hRc : RB.Rec W (w.heap.size + 1) r := by
    rw [← hW]
    have := ((RB.Rec.new (w.alloc (.cells #[.int .u16 c, .int .u8 t, .int .u8 f, .int .u32 (k : Int)] 46)) r hr.1).alloc (.cells (encS s) 53)).alloc (.cells (encS M.s0) 53)
    simpa using this
  have hS : St W (w.heap.size + 1 + 1) 53 s := by
    rw [← hW]
    have := (St.new ((w.alloc (.cells #[.int .u16 c, .int .u8 t, .int .u8 f, .int .u32 (k : Int)] 46)).alloc (.cells (RB.enc r) 36)) 53 s hs.m.1).alloc (.cells (encS M.s0) 53)
    simpa using this
  have hO : St W (w.heap.size + 1 + 1 + 1) 53 M.s0 := by
    rw [← hW]
    have := St.new (((w.alloc (.cells #[.int .u16 c, .int .u8 t, .int .u8 f, .int .u32 (k : Int)] 46)).alloc (.cells (RB.enc r) 36)).alloc (.cells (encS s) 53)) 53 M.s0 rfl
    simpa using this
  obtain ⟨a0, a1, a2, a3, _⟩ := hA.cells
  obtain ⟨s1, s2, s3, s4, s5⟩ := hS.cells
  have g0 := hS.frozen (2)
  have S0 := hS.setX k
  have O0 : St (W.setCell ⟨w.heap.size + 1 + 1, 2, none⟩ (.int .u32 (k : Int))) (w.heap.size + 1 + 1 + 1) 53 M.s0 := ⟨by rw [Below.heap_setCell _ _ _ _ (show w.heap.size + 1 + 1 + 1 ≠ w.heap.size + 1 + 1 by omega)]; exact hO.1, hO.2⟩
  have H0 := hid (HB.out.setCell (p := ⟨w.heap.size + 1 + 1, 2, none⟩) (by simp; omega) (.int .u32 (k : Int)))
  obtain ⟨V0, v0⟩ : ∃ V, W.setCell ⟨w.heap.size + 1 + 1, 2, none⟩ (.int .u32 (k : Int)) = V := ⟨_, rfl⟩
  rw [v0] at S0 O0 H0
  have hld := S0.load
  have hsz2 := encS_size S0.2
  obtain ⟨W5, hst, hR5, _, _, hB5⟩ := O0.storeK S0.2
  have HB5 := hid (hB5 w.heap.size w (by omega) H0.out)
  have HR5 := hid hR5
  clear hB5 hR5 S0 O0 H0 hO HB
  go_enter Try.func52, Try.ntmps52
  go_wp2_with fail
  refine (kind_any _ _).mono ?_
  rintro e w1 ⟨rfl, rfl⟩
  rw [hkd]
  go_wp2
  refine bodyPost_ret (v := .agg (encS { s with x := (k : Int) })) ?_ rfl ⟨rfl, HB5.out⟩
  exact results_stK Try.results52 _ rfl HR5.out

set_option maxHeartbeats 3200000 in
set_option maxRecDepth 1000000 in
theorem mv7 (c t f : Int) (k : Nat) (ok : M.okI (c, t, f, k)) (r : List Int) (hr : R.okR r) (s : M.S) (hs : M.okS s) (hkd : M.kind c = 7) (w : World) :
    Calls Try.prog 52 #[.agg #[.int .u16 c, .int .u8 t, .int .u8 f, .int .u32 (k : Int)], .agg (RB.enc r), .agg (encS s)] w fun e w' => e = .returned (.agg (encS { s with x := 64 })) ∧ Below w.heap.size w w' := by
  have hX := RB.lcf_eq
  have hz := s0_lit
  have b3 : 0 ≤ (k : Int) ∧ (k : Int) < 4294967296 := ok.2.2.2
  obtain ⟨W, hW⟩ : ∃ W, (((w.alloc (.cells #[.int .u16 c, .int .u8 t, .int .u8 f, .int .u32 (k : Int)] 46)).alloc (.cells (RB.enc r) 36)).alloc (.cells (encS s) 53)).alloc (.cells (encS M.s0) 53) = W := ⟨_, rfl⟩
  have HB : Hid (Below w.heap.size w W) := by rw [← hW]; exact hid ((((Below.refl _ w).alloc (Nat.le_refl _) _).alloc (by simp) _).alloc (by simp; omega) _ |>.alloc (by simp; omega) _)
  have hA : At W (w.heap.size) c t f k := by rw [← hW]; exact (((At.new w c t f k).alloc _).alloc _).alloc _
  have hRc : RB.Rec W (w.heap.size + 1) r := by
    rw [← hW]
    have := ((RB.Rec.new (w.alloc (.cells #[.int .u16 c, .int .u8 t, .int .u8 f, .int .u32 (k : Int)] 46)) r hr.1).alloc (.cells (encS s) 53)).alloc (.cells (encS M.s0) 53)
    simpa using this
  have hS : St W (w.heap.size + 1 + 1) 53 s := by
    rw [← hW]
    have := (St.new ((w.alloc (.cells #[.int .u16 c, .int .u8 t, .int .u8 f, .int .u32 (k : Int)] 46)).alloc (.cells (RB.enc r) 36)) 53 s hs.m.1).alloc (.cells (encS M.s0) 53)
    simpa using this
  have hO : St W (w.heap.size + 1 + 1 + 1) 53 M.s0 := by
    rw [← hW]
    have := St.new (((w.alloc (.cells #[.int .u16 c, .int .u8 t, .int .u8 f, .int .u32 (k : Int)] 46)).alloc (.cells (RB.enc r) 36)).alloc (.cells (encS s) 53)) 53 M.s0 rfl
    simpa using this
  obtain ⟨a0, a1, a2, a3, _⟩ := hA.cells
  obtain ⟨s1, s2, s3, s4, s5⟩ := hS.cells
  have g0 := hS.frozen (2)
  have S0 := hS.setX 64
  have O0 : St (W.setCell ⟨w.heap.size + 1 + 1, 2, none⟩ (.int .u32 64)) (w.heap.size + 1 + 1 + 1) 53 M.s0 := ⟨by rw [Below.heap_setCell _ _ _ _ (show w.heap.size + 1 + 1 + 1 ≠ w.heap.size + 1 + 1 by omega)]; exact hO.1, hO.2⟩
  have H0 := hid (HB.out.setCell (p := ⟨w.heap.size + 1 + 1, 2, none⟩) (by simp; omega) (.int .u32 64))
  obtain ⟨V0, v0⟩ : ∃ V, W.setCell ⟨w.heap.size + 1 + 1, 2, none⟩ (.int .u32 64) = V := ⟨_, rfl⟩
  rw [v0] at S0 O0 H0
  have hld := S0.load
  have hsz2 := encS_size S0.2
  obtain ⟨W5, hst, hR5, _, _, hB5⟩ := O0.storeK S0.2
  have HB5 := hid (hB5 w.heap.size w (by omega) H0.out)
  have HR5 := hid hR5
  clear hB5 hR5 S0 O0 H0 hO HB
  go_enter Try.func52, Try.ntmps52
  go_wp2_with fail
  refine (kind_any _ _).mono ?_
  rintro e w1 ⟨rfl, rfl⟩
  rw [hkd]
  go_wp2
  refine bodyPost_ret (v := .agg (encS { s with x := 64 })) ?_ rfl ⟨rfl, HB5.out⟩
  exact results_stK Try.results52 _ rfl HR5.out

set_option maxHeartbeats 3200000 in
set_option maxRecDepth 1000000 in
theorem mv15 (c t f : Int) (k : Nat) (ok : M.okI (c, t, f, k)) (r : List Int) (hr : R.okR r) (s : M.S) (hs : M.okS s) (hkd : M.kind c = 15) (w : World) :
    Calls Try.prog 52 #[.agg #[.int .u16 c, .int .u8 t, .int .u8 f, .int .u32 (k : Int)], .agg (RB.enc r), .agg (encS s)] w fun e w' => e = .returned (.agg (encS { s with x := s.a })) ∧ Below w.heap.size w w' := by
  have hX := RB.lcf_eq
  have hz := s0_lit
  have b3 : 0 ≤ (k : Int) ∧ (k : Int) < 4294967296 := ok.2.2.2
  obtain ⟨W, hW⟩ : ∃ W, (((w.alloc (.cells #[.int .u16 c, .int .u8 t, .int .u8 f, .int .u32 (k : Int)] 46)).alloc (.cells (RB.enc r) 36)).alloc (.cells (encS s) 53)).alloc (.cells (encS M.s0) 53) = W := ⟨_, rfl⟩
  have HB : Hid (Below w.heap.size w W) := by rw [← hW]; exact hid ((((Below.refl _ w).alloc (Nat.le_refl _) _).alloc (by simp) _).alloc (by simp; omega) _ |>.alloc (by simp; omega) _)
  have hA : At W (w.heap.size) c t f k := by rw [← hW]; exact (((At.new w c t f k).alloc _).alloc _).alloc _
  have hRc : RB.Rec W (w.heap.size + 1) r := by
    rw [← hW]
    have := ((RB.Rec.new (w.alloc (.cells #[.int .u16 c, .int .u8 t, .int .u8 f, .int .u32 (k : Int)] 46)) r hr.1).alloc (.cells (encS s) 53)).alloc (.cells (encS M.s0) 53)
    simpa using this
  have hS : St W (w.heap.size + 1 + 1) 53 s := by
    rw [← hW]
    have := (St.new ((w.alloc (.cells #[.int .u16 c, .int .u8 t, .int .u8 f, .int .u32 (k : Int)] 46)).alloc (.cells (RB.enc r) 36)) 53 s hs.m.1).alloc (.cells (encS M.s0) 53)
    simpa using this
  have hO : St W (w.heap.size + 1 + 1 + 1) 53 M.s0 := by
    rw [← hW]
    have := St.new (((w.alloc (.cells #[.int .u16 c, .int .u8 t, .int .u8 f, .int .u32 (k : Int)] 46)).alloc (.cells (RB.enc r) 36)).alloc (.cells (encS s) 53)) 53 M.s0 rfl
    simpa using this
  obtain ⟨a0, a1, a2, a3, _⟩ := hA.cells
  obtain ⟨s1, s2, s3, s4, s5⟩ := hS.cells
  have g0 := hS.frozen (2)
  have S0 := hS.setX s.a
  have O0 : St (W.setCell ⟨w.heap.size + 1 + 1, 2, none⟩ (.int .u32 s.a)) (w.heap.size + 1 + 1 + 1) 53 M.s0 := ⟨by rw [Below.heap_setCell _ _ _ _ (show w.heap.size + 1 + 1 + 1 ≠ w.heap.size + 1 + 1 by omega)]; exact hO.1, hO.2⟩
  have H0 := hid (HB.out.setCell (p := ⟨w.heap.size + 1 + 1, 2, none⟩) (by simp; omega) (.int .u32 s.a))
  obtain ⟨V0, v0⟩ : ∃ V, W.setCell ⟨w.heap.size + 1 + 1, 2, none⟩ (.int .u32 s.a) = V := ⟨_, rfl⟩
  rw [v0] at S0 O0 H0
  have hld := S0.load
  have hsz2 := encS_size S0.2
  obtain ⟨W5, hst, hR5, _, _, hB5⟩ := O0.storeK S0.2
  have HB5 := hid (hB5 w.heap.size w (by omega) H0.out)
  have HR5 := hid hR5
  clear hB5 hR5 S0 O0 H0 hO HB
  go_enter Try.func52, Try.ntmps52
  go_wp2_with fail
  refine (kind_any _ _).mono ?_
  rintro e w1 ⟨rfl, rfl⟩
  rw [hkd]
  go_wp2
  refine bodyPost_ret (v := .agg (encS { s with x := s.a })) ?_ rfl ⟨rfl, HB5.out⟩
  exact results_stK Try.results52 _ rfl HR5.out

set_option maxHeartbeats 3200000 in
set_option maxRecDepth 1000000 in
theorem mv16 (c t f : Int) (k : Nat) (ok : M.okI (c, t, f, k)) (r : List Int) (hr : R.okR r) (s : M.S) (hs : M.okS s) (hkd : M.kind c = 16) (w : World) :
    Calls Try.prog 52 #[.agg #[.int .u16 c, .int .u8 t, .int .u8 f, .int .u32 (k : Int)], .agg (RB.enc r), .agg (encS s)] w fun e w' => e = .returned (.agg (encS { s with a := s.x })) ∧ Below w.heap.size w w' := by
  have hX := RB.lcf_eq
  have hz := s0_lit
  have b3 : 0 ≤ (k : Int) ∧ (k : Int) < 4294967296 := ok.2.2.2
  obtain ⟨W, hW⟩ : ∃ W, (((w.alloc (.cells #[.int .u16 c, .int .u8 t, .int .u8 f, .int .u32 (k : Int)] 46)).alloc (.cells (RB.enc r) 36)).alloc (.cells (encS s) 53)).alloc (.cells (encS M.s0) 53) = W := ⟨_, rfl⟩
  have HB : Hid (Below w.heap.size w W) := by rw [← hW]; exact hid ((((Below.refl _ w).alloc (Nat.le_refl _) _).alloc (by simp) _).alloc (by simp; omega) _ |>.alloc (by simp; omega) _)
  have hA : At W (w.heap.size) c t f k := by rw [← hW]; exact (((At.new w c t f k).alloc _).alloc _).alloc _
  have hRc : RB.Rec W (w.heap.size + 1) r := by
    rw [← hW]
    have := ((RB.Rec.new (w.alloc (.cells #[.int .u16 c, .int .u8 t, .int .u8 f, .int .u32 (k : Int)] 46)) r hr.1).alloc (.cells (encS s) 53)).alloc (.cells (encS M.s0) 53)
    simpa using this
  have hS : St W (w.heap.size + 1 + 1) 53 s := by
    rw [← hW]
    have := (St.new ((w.alloc (.cells #[.int .u16 c, .int .u8 t, .int .u8 f, .int .u32 (k : Int)] 46)).alloc (.cells (RB.enc r) 36)) 53 s hs.m.1).alloc (.cells (encS M.s0) 53)
    simpa using this
  have hO : St W (w.heap.size + 1 + 1 + 1) 53 M.s0 := by
    rw [← hW]
    have := St.new (((w.alloc (.cells #[.int .u16 c, .int .u8 t, .int .u8 f, .int .u32 (k : Int)] 46)).alloc (.cells (RB.enc r) 36)).alloc (.cells (encS s) 53)) 53 M.s0 rfl
    simpa using this
  obtain ⟨a0, a1, a2, a3, _⟩ := hA.cells
  obtain ⟨s1, s2, s3, s4, s5⟩ := hS.cells
  have g0 := hS.frozen (1)
  have S0 := hS.setA s.x
  have O0 : St (W.setCell ⟨w.heap.size + 1 + 1, 1, none⟩ (.int .u32 s.x)) (w.heap.size + 1 + 1 + 1) 53 M.s0 := ⟨by rw [Below.heap_setCell _ _ _ _ (show w.heap.size + 1 + 1 + 1 ≠ w.heap.size + 1 + 1 by omega)]; exact hO.1, hO.2⟩
  have H0 := hid (HB.out.setCell (p := ⟨w.heap.size + 1 + 1, 1, none⟩) (by simp; omega) (.int .u32 s.x))
  obtain ⟨V0, v0⟩ : ∃ V, W.setCell ⟨w.heap.size + 1 + 1, 1, none⟩ (.int .u32 s.x) = V := ⟨_, rfl⟩
  rw [v0] at S0 O0 H0
  have hld := S0.load
  have hsz2 := encS_size S0.2
  obtain ⟨W5, hst, hR5, _, _, hB5⟩ := O0.storeK S0.2
  have HB5 := hid (hB5 w.heap.size w (by omega) H0.out)
  have HR5 := hid hR5
  clear hB5 hR5 S0 O0 H0 hO HB
  go_enter Try.func52, Try.ntmps52
  go_wp2_with fail
  refine (kind_any _ _).mono ?_
  rintro e w1 ⟨rfl, rfl⟩
  rw [hkd]
  go_wp2
  refine bodyPost_ret (v := .agg (encS { s with a := s.x })) ?_ rfl ⟨rfl, HB5.out⟩
  exact results_stK Try.results52 _ rfl HR5.out

set_option maxHeartbeats 3200000 in
set_option maxRecDepth 1000000 in
theorem mv4 (c t f : Int) (k : Nat) (ok : M.okI (c, t, f, k)) (r : List Int) (hr : R.okR r) (s : M.S) (hs : M.okS s) (hkd : M.kind c = 4) (hkm : k < 16) (w : World) :
    Calls Try.prog 52 #[.agg #[.int .u16 c, .int .u8 t, .int .u8 f, .int .u32 (k : Int)], .agg (RB.enc r), .agg (encS s)] w fun e w' => e = .returned (.agg (encS { s with a := R.at_ s.m k })) ∧ Below w.heap.size w w' := by
  have hX := RB.lcf_eq
  have hz := s0_lit
  have b3 : 0 ≤ (k : Int) ∧ (k : Int) < 4294967296 := ok.2.2.2
  obtain ⟨W, hW⟩ : ∃ W, (((w.alloc (.cells #[.int .u16 c, .int .u8 t, .int .u8 f, .int .u32 (k : Int)] 46)).alloc (.cells (RB.enc r) 36)).alloc (.cells (encS s) 53)).alloc (.cells (encS M.s0) 53) = W := ⟨_, rfl⟩
  have HB : Hid (Below w.heap.size w W) := by rw [← hW]; exact hid ((((Below.refl _ w).alloc (Nat.le_refl _) _).alloc (by simp) _).alloc (by simp; omega) _ |>.alloc (by simp; omega) _)
  have hA : At W (w.heap.size) c t f k := by rw [← hW]; exact (((At.new w c t f k).alloc _).alloc _).alloc _
  have hRc : RB.Rec W (w.heap.size + 1) r := by
    rw [← hW]
    have := ((RB.Rec.new (w.alloc (.cells #[.int .u16 c, .int .u8 t, .int .u8 f, .int .u32 (k : Int)] 46)) r hr.1).alloc (.cells (encS s) 53)).alloc (.cells (encS M.s0) 53)
    simpa using this
  have hS : St W (w.heap.size + 1 + 1) 53 s := by
    rw [← hW]
    have := (St.new ((w.alloc (.cells #[.int .u16 c, .int .u8 t, .int .u8 f, .int .u32 (k : Int)] 46)).alloc (.cells (RB.enc r) 36)) 53 s hs.m.1).alloc (.cells (encS M.s0) 53)
    simpa using this
  have hO : St W (w.heap.size + 1 + 1 + 1) 53 M.s0 := by
    rw [← hW]
    have := St.new (((w.alloc (.cells #[.int .u16 c, .int .u8 t, .int .u8 f, .int .u32 (k : Int)] 46)).alloc (.cells (RB.enc r) 36)).alloc (.cells (encS s) 53)) 53 M.s0 rfl
    simpa using this
  obtain ⟨a0, a1, a2, a3, _⟩ := hA.cells
  obtain ⟨s1, s2, s3, s4, s5⟩ := hS.cells
  have hmk := hS.mem k hkm
  have e5 : (k : Int) < 16 := by omega
  have g0 := hS.frozen (1)
  have S0 := hS.setA (R.at_ s.m k)
  have O0 : St (W.setCell ⟨w.heap.size + 1 + 1, 1, none⟩ (.int .u32 (R.at_ s.m k))) (w.heap.size + 1 + 1 + 1) 53 M.s0 := ⟨by rw [Below.heap_setCell _ _ _ _ (show w.heap.size + 1 + 1 + 1 ≠ w.heap.size + 1 + 1 by omega)]; exact hO.1, hO.2⟩
  have H0 := hid (HB.out.setCell (p := ⟨w.heap.size + 1 + 1, 1, none⟩) (by simp; omega) (.int .u32 (R.at_ s.m k)))
  obtain ⟨V0, v0⟩ : ∃ V, W.setCell ⟨w.heap.size + 1 + 1, 1, none⟩ (.int .u32 (R.at_ s.m k)) = V := ⟨_, rfl⟩
  rw [v0] at S0 O0 H0
  have hld := S0.load
  have hsz2 := encS_size S0.2
  obtain ⟨W5, hst, hR5, _, _, hB5⟩ := O0.storeK S0.2
  have HB5 := hid (hB5 w.heap.size w (by omega) H0.out)
  have HR5 := hid hR5
  clear hB5 hR5 S0 O0 H0 hO HB
  go_enter Try.func52, Try.ntmps52
  go_wp2_with fail
  refine (kind_any _ _).mono ?_
  rintro e w1 ⟨rfl, rfl⟩
  rw [hkd]
  go_wp2
  refine bodyPost_ret (v := .agg (encS { s with a := R.at_ s.m k })) ?_ rfl ⟨rfl, HB5.out⟩
  exact results_stK Try.results52 _ rfl HR5.out

set_option maxHeartbeats 3200000 in
set_option maxRecDepth 1000000 in
theorem mv6 (c t f : Int) (k : Nat) (ok : M.okI (c, t, f, k)) (r : List Int) (hr : R.okR r) (s : M.S) (hs : M.okS s) (hkd : M.kind c = 6) (hkm : k < 16) (w : World) :
    Calls Try.prog 52 #[.agg #[.int .u16 c, .int .u8 t, .int .u8 f, .int .u32 (k : Int)], .agg (RB.enc r), .agg (encS s)] w fun e w' => e = .returned (.agg (encS { s with x := R.at_ s.m k })) ∧ Below w.heap.size w w' := by
  have hX := RB.lcf_eq
  have hz := s0_lit
  have b3 : 0 ≤ (k : Int) ∧ (k : Int) < 4294967296 := ok.2.2.2
  obtain ⟨W, hW⟩ : ∃ W, (((w.alloc (.cells #[.int .u16 c, .int .u8 t, .int .u8 f, .int .u32 (k : Int)] 46)).alloc (.cells (RB.enc r) 36)).alloc (.cells (encS s) 53)).alloc (.cells (encS M.s0) 53) = W := ⟨_, rfl⟩
  have HB : Hid (Below w.heap.size w W) := by rw [← hW]; exact hid ((((Below.refl _ w).alloc (Nat.le_refl _) _).alloc (by simp) _).alloc (by simp; omega) _ |>.alloc (by simp; omega) _)
  have hA : At W (w.heap.size) c t f k := by rw [← hW]; exact (((At.new w c t f k).alloc _).alloc _).alloc _
  have hRc : RB.Rec W (w.heap.size + 1) r := by
    rw [← hW]
    have := ((RB.Rec.new (w.alloc (.cells #[.int .u16 c, .int .u8 t, .int .u8 f, .int .u32 (k : Int)] 46)) r hr.1).alloc (.cells (encS s) 53)).alloc (.cells (encS M.s0) 53)
    simpa using this
  have hS : St W (w.heap.size + 1 + 1) 53 s := by
    rw [← hW]
    have := (St.new ((w.alloc (.cells #[.int .u16 c, .int .u8 t, .int .u8 f, .int .u32 (k : Int)] 46)).alloc (.cells (RB.enc r) 36)) 53 s hs.m.1).alloc (.cells (encS M.s0) 53)
    simpa using this
  have hO : St W (w.heap.size + 1 + 1 + 1) 53 M.s0 := by
    rw [← hW]
    have := St.new (((w.alloc (.cells #[.int .u16 c, .int .u8 t, .int .u8 f, .int .u32 (k : Int)] 46)).alloc (.cells (RB.enc r) 36)).alloc (.cells (encS s) 53)) 53 M.s0 rfl
    simpa using this
  obtain ⟨a0, a1, a2, a3, _⟩ := hA.cells
  obtain ⟨s1, s2, s3, s4, s5⟩ := hS.cells
  have hmk := hS.mem k hkm
  have e5 : (k : Int) < 16 := by omega
  have g0 := hS.frozen (2)
  have S0 := hS.setX (R.at_ s.m k)
  have O0 : St (W.setCell ⟨w.heap.size + 1 + 1, 2, none⟩ (.int .u32 (R.at_ s.m k))) (w.heap.size + 1 + 1 + 1) 53 M.s0 := ⟨by rw [Below.heap_setCell _ _ _ _ (show w.heap.size + 1 + 1 + 1 ≠ w.heap.size + 1 + 1 by omega)]; exact hO.1, hO.2⟩
  have H0 := hid (HB.out.setCell (p := ⟨w.heap.size + 1 + 1, 2, none⟩) (by simp; omega) (.int .u32 (R.at_ s.m k)))
  obtain ⟨V0, v0⟩ : ∃ V, W.setCell ⟨w.heap.size + 1 + 1, 2, none⟩ (.int .u32 (R.at_ s.m k)) = V := ⟨_, rfl⟩
  rw [v0] at S0 O0 H0
  have hld := S0.load
  have hsz2 := encS_size S0.2
  obtain ⟨W5, hst, hR5, _, _, hB5⟩ := O0.storeK S0.2
  have HB5 := hid (hB5 w.heap.size w (by omega) H0.out)
  have HR5 := hid hR5
  clear hB5 hR5 S0 O0 H0 hO HB
  go_enter Try.func52, Try.ntmps52
  go_wp2_with fail
  refine (kind_any _ _).mono ?_
  rintro e w1 ⟨rfl, rfl⟩
  rw [hkd]
  go_wp2
  refine bodyPost_ret (v := .agg (encS { s with x := R.at_ s.m k })) ?_ rfl ⟨rfl, HB5.out⟩
  exact results_stK Try.results52 _ rfl HR5.out

set_option maxHeartbeats 3200000 in
set_option maxRecDepth 1000000 in
theorem mv8 (c t f : Int) (k : Nat) (ok : M.okI (c, t, f, k)) (r : List Int) (hr : R.okR r) (s : M.S) (hs : M.okS s) (hkd : M.kind c = 8) (hkm : k < 16) (w : World) :
    Calls Try.prog 52 #[.agg #[.int .u16 c, .int .u8 t, .int .u8 f, .int .u32 (k : Int)], .agg (RB.enc r), .agg (encS s)] w fun e w' => e = .returned (.agg (encS { s with m := s.m.set k s.a })) ∧ Below w.heap.size w w' := by
  have hX := RB.lcf_eq
  have hz := s0_lit
  have b3 : 0 ≤ (k : Int) ∧ (k : Int) < 4294967296 := ok.2.2.2
  obtain ⟨W, hW⟩ : ∃ W, (((w.alloc (.cells #[.int .u16 c, .int .u8 t, .int .u8 f, .int .u32 (k : Int)] 46)).alloc (.cells (RB.enc r) 36)).alloc (.cells (encS s) 53)).alloc (.cells (encS M.s0) 53) = W := ⟨_, rfl⟩
  have HB : Hid (Below w.heap.size w W) := by rw [← hW]; exact hid ((((Below.refl _ w).alloc (Nat.le_refl _) _).alloc (by simp) _).alloc (by simp; omega) _ |>.alloc (by simp; omega) _)
  have hA : At W (w.heap.size) c t f k := by rw [← hW]; exact (((At.new w c t f k).alloc _).alloc _).alloc _
  have hRc : RB.Rec W (w.heap.size + 1) r := by
    rw [← hW]
    have := ((RB.Rec.new (w.alloc (.cells #[.int .u16 c, .int .u8 t, .int .u8 f, .int .u32 (k : Int)] 46)) r hr.1).alloc (.cells (encS s) 53)).alloc (.cells (encS M.s0) 53)
    simpa using this
  have hS : St W (w.heap.size + 1 + 1) 53 s := by
    rw [← hW]
    have := (St.new ((w.alloc (.cells #[.int .u16 c, .int .u8 t, .int .u8 f, .int .u32 (k : Int)] 46)).alloc (.cells (RB.enc r) 36)) 53 s hs.m.1).alloc (.cells (encS M.s0) 53)
    simpa using this
  have hO : St W (w.heap.size + 1 + 1 + 1) 53 M.s0 := by
    rw [← hW]
    have := St.new (((w.alloc (.cells #[.int .u16 c, .int .u8 t, .int .u8 f, .int .u32 (k : Int)] 46)).alloc (.cells (RB.enc r) 36)).alloc (.cells (encS s) 53)) 53 M.s0 rfl
    simpa using this
  obtain ⟨a0, a1, a2, a3, _⟩ := hA.cells
  obtain ⟨s1, s2, s3, s4, s5⟩ := hS.cells
  have hmk := hS.mem k hkm
  have e5 : (k : Int) < 16 := by omega
  have g0 := hS.frozen (3 + k)
  have S0 := hS.setM k hkm s.a
  have O0 : St (W.setCell ⟨w.heap.size + 1 + 1, 3 + k, none⟩ (.int .u32 s.a)) (w.heap.size + 1 + 1 + 1) 53 M.s0 := ⟨by rw [Below.heap_setCell _ _ _ _ (show w.heap.size + 1 + 1 + 1 ≠ w.heap.size + 1 + 1 by omega)]; exact hO.1, hO.2⟩
  have H0 := hid (HB.out.setCell (p := ⟨w.heap.size + 1 + 1, 3 + k, none⟩) (by simp; omega) (.int .u32 s.a))
  obtain ⟨V0, v0⟩ : ∃ V, W.setCell ⟨w.heap.size + 1 + 1, 3 + k, none⟩ (.int .u32 s.a) = V := ⟨_, rfl⟩
  rw [v0] at S0 O0 H0
  have hld := S0.load
  have hsz2 := encS_size S0.2
  obtain ⟨W5, hst, hR5, _, _, hB5⟩ := O0.storeK S0.2
  have HB5 := hid (hB5 w.heap.size w (by omega) H0.out)
  have HR5 := hid hR5
  clear hB5 hR5 S0 O0 H0 hO HB
  go_enter Try.func52, Try.ntmps52
  go_wp2_with fail
  refine (kind_any _ _).mono ?_
  rintro e w1 ⟨rfl, rfl⟩
  rw [hkd]
  go_wp2
  refine bodyPost_ret (v := .agg (encS { s with m := s.m.set k s.a })) ?_ rfl ⟨rfl, HB5.out⟩
  exact results_stK Try.results52 _ rfl HR5.out

set_option maxHeartbeats 3200000 in
set_option maxRecDepth 1000000 in
theorem mv9 (c t f : Int) (k : Nat) (ok : M.okI (c, t, f, k)) (r : List Int) (hr : R.okR r) (s : M.S) (hs : M.okS s) (hkd : M.kind c = 9) (hkm : k < 16) (w : World) :
    Calls Try.prog 52 #[.agg #[.int .u16 c, .int .u8 t, .int .u8 f, .int .u32 (k : Int)], .agg (RB.enc r), .agg (encS s)] w fun e w' => e = .returned (.agg (encS { s with m := s.m.set k s.x })) ∧ Below w.heap.size w w' := by
  have hX := RB.lcf_eq
  have hz := s0_lit
  have b3 : 0 ≤ (k : Int) ∧ (k : Int) < 4294967296 := ok.2.2.2
  obtain ⟨W, hW⟩ : ∃ W, (((w.alloc (.cells #[.int .u16 c, .int .u8 t, .int .u8 f, .int .u32 (k : Int)] 46)).alloc (.cells (RB.enc r) 36)).alloc (.cells (encS s) 53)).alloc (.cells (encS M.s0) 53) = W := ⟨_, rfl⟩
  have HB : Hid (Below w.heap.size w W) := by rw [← hW]; exact hid ((((Below.refl _ w).alloc (Nat.le_refl _) _).alloc (by simp) _).alloc (by simp; omega) _ |>.alloc (by simp; omega) _)
  have hA : At W (w.heap.size) c t f k := by rw [← hW]; exact (((At.new w c t f k).alloc _).alloc _).alloc _
  have hRc : RB.Rec W (w.heap.size + 1) r := by
    rw [← hW]
    have := ((RB.Rec.new (w.alloc (.cells #[.int .u16 c, .int .u8 t, .int .u8 f, .int .u32 (k : Int)] 46)) r hr.1).alloc (.cells (encS s) 53)).alloc (.cells (encS M.s0) 53)
    simpa using this
  have hS : St W (w.heap.size + 1 + 1) 53 s := by
    rw [← hW]
    have := (St.new ((w.alloc (.cells #[.int .u16 c, .int .u8 t, .int .u8 f, .int .u32 (k : Int)] 46)).alloc (.cells (RB.enc r) 36)) 53 s hs.m.1).alloc (.cells (encS M.s0) 53)
    simpa using this
  have hO : St W (w.heap.size + 1 + 1 + 1) 53 M.s0 := by
    rw [← hW]
    have := St.new (((w.alloc (.cells #[.int .u16 c, .int .u8 t, .int .u8 f, .int .u32 (k : Int)] 46)).alloc (.cells (RB.enc r) 36)).alloc (.cells (encS s) 53)) 53 M.s0 rfl
    simpa using this
  obtain ⟨a0, a1, a2, a3, _⟩ := hA.cells
  obtain ⟨s1, s2, s3, s4, s5⟩ := hS.cells
  have hmk := hS.mem k hkm
  have e5 : (k : Int) < 16 := by omega
  have g0 := hS.frozen (3 + k)
  have S0 := hS.setM k hkm s.x
  have O0 : St (W.setCell ⟨w.heap.size + 1 + 1, 3 + k, none⟩ (.int .u32 s.x)) (w.heap.size + 1 + 1 + 1) 53 M.s0 := ⟨by rw [Below.heap_setCell _ _ _ _ (show w.heap.size + 1 + 1 + 1 ≠ w.heap.size + 1 + 1 by omega)]; exact hO.1, hO.2⟩
  have H0 := hid (HB.out.setCell (p := ⟨w.heap.size + 1 + 1, 3 + k, none⟩) (by simp; omega) (.int .u32 s.x))
  obtain ⟨V0, v0⟩ : ∃ V, W.setCell ⟨w.heap.size + 1 + 1, 3 + k, none⟩ (.int .u32 s.x) = V := ⟨_, rfl⟩
  rw [v0] at S0 O0 H0
  have hld := S0.load
  have hsz2 := encS_size S0.2
  obtain ⟨W5, hst, hR5, _, _, hB5⟩ := O0.storeK S0.2
  have HB5 := hid (hB5 w.heap.size w (by omega) H0.out)
  have HR5 := hid hR5
  clear hB5 hR5 S0 O0 H0 hO HB
  go_enter Try.func52, Try.ntmps52
  go_wp2_with fail
  refine (kind_any _ _).mono ?_
  rintro e w1 ⟨rfl, rfl⟩
  rw [hkd]
  go_wp2
  refine bodyPost_ret (v := .agg (encS { s with m := s.m.set k s.x })) ?_ rfl ⟨rfl, HB5.out⟩
  exact results_stK Try.results52 _ rfl HR5.out

set_option maxHeartbeats 3200000 in
set_option maxRecDepth 1000000 in
theorem mv1 (c t f : Int) (k : Nat) (ok : M.okI (c, t, f, k)) (r : List Int) (hr : R.okR r) (s : M.S) (hs : M.okS s) (hkd : M.kind c = 1) (d : Nat) (hd : k = 4 * d) (hd16 : d < 16) (w : World) :
    Calls Try.prog 52 #[.agg #[.int .u16 c, .int .u8 t, .int .u8 f, .int .u32 (k : Int)], .agg (RB.enc r), .agg (encS s)] w fun e w' => e = .returned (.agg (encS { s with a := R.at_ r d })) ∧ Below w.heap.size w w' := by
  have hisl : R.isL (k : Int) = true := decide_eq_true (by omega)
  have hval : R.load r (k : Int) = R.at_ r d := by unfold R.load; rw [hisl, show ((k : Int) / 4).toNat = d by omega]; rfl
  clear hd
  have hX := RB.lcf_eq
  have hz := s0_lit
  have b3 : 0 ≤ (k : Int) ∧ (k : Int) < 4294967296 := ok.2.2.2
  obtain ⟨W, hW⟩ : ∃ W, (((w.alloc (.cells #[.int .u16 c, .int .u8 t, .int .u8 f, .int .u32 (k : Int)] 46)).alloc (.cells (RB.enc r) 36)).alloc (.cells (encS s) 53)).alloc (.cells (encS M.s0) 53) = W := ⟨_, rfl⟩
  have HB : Hid (Below w.heap.size w W) := by rw [← hW]; exact hid ((((Below.refl _ w).alloc (Nat.le_refl _) _).alloc (by simp) _).alloc (by simp; omega) _ |>.alloc (by simp; omega) _)
  have hA : At W (w.heap.size) c t f k := by rw [← hW]; exact (((At.new w c t f k).alloc _).alloc _).alloc _
  have hRc : RB.Rec W (w.heap.size + 1) r := by
    rw [← hW]
    have := ((RB.Rec.new (w.alloc (.cells #[.int .u16 c, .int .u8 t, .int .u8 f, .int .u32 (k : Int)] 46)) r hr.1).alloc (.cells (encS s) 53)).alloc (.cells (encS M.s0) 53)
    simpa using this
  have hS : St W (w.heap.size + 1 + 1) 53 s := by
    rw [← hW]
    have := (St.new ((w.alloc (.cells #[.int .u16 c, .int .u8 t, .int .u8 f, .int .u32 (k : Int)] 46)).alloc (.cells (RB.enc r) 36)) 53 s hs.m.1).alloc (.cells (encS M.s0) 53)
    simpa using this
  have hO : St W (w.heap.size + 1 + 1 + 1) 53 M.s0 := by
    rw [← hW]
    have := St.new (((w.alloc (.cells #[.int .u16 c, .int .u8 t, .int .u8 f, .int .u32 (k : Int)] 46)).alloc (.cells (RB.enc r) 36)).alloc (.cells (encS s) 53)) 53 M.s0 rfl
    simpa using this
  obtain ⟨a0, a1, a2, a3, _⟩ := hA.cells
  obtain ⟨s1, s2, s3, s4, s5⟩ := hS.cells
  have hlr := hRc.load
  have hszr := RB.enc_size hr.1
  have HL := hid (fun w => RB.load_any r hr (k : Int) b3 w)
  clear hX hz
  have hX := RB.lcf_eq
  have hz := s0_lit
  go_enter Try.func52, Try.ntmps52
  go_wp2_with fail
  refine (kind_any _ _).mono ?_
  rintro e w1 ⟨rfl, rfl⟩
  rw [hkd]
  go_wp2_with fail
  refine (HL.out _).mono ?_
  rintro e w2 ⟨rfl, hb⟩
  rw [hval, hisl]
  replace hS := hS.below hb
  replace hO := hO.below hb
  replace HB := stp HB hb
  clear hb a0 a1 a2 a3 hA hW s1 s2 s3 s4 s5 hlr hRc HL
  obtain ⟨s1, s2, s3, s4, s5⟩ := hS.cells
  have g0 := hS.frozen (1)
  have S0 := hS.setA (R.at_ r d)
  have O0 : St (w2.setCell ⟨w.heap.size + 1 + 1, 1, none⟩ (.int .u32 (R.at_ r d))) (w.heap.size + 1 + 1 + 1) 53 M.s0 := ⟨by rw [Below.heap_setCell _ _ _ _ (show w.heap.size + 1 + 1 + 1 ≠ w.heap.size + 1 + 1 by omega)]; exact hO.1, hO.2⟩
  have H0 := hid (HB.out.setCell (p := ⟨w.heap.size + 1 + 1, 1, none⟩) (by simp; omega) (.int .u32 (R.at_ r d)))
  obtain ⟨V0, v0⟩ : ∃ V, w2.setCell ⟨w.heap.size + 1 + 1, 1, none⟩ (.int .u32 (R.at_ r d)) = V := ⟨_, rfl⟩
  rw [v0] at S0 O0 H0
  have hld := S0.load
  have hsz2 := encS_size S0.2
  obtain ⟨W5, hst, hR5, _, _, hB5⟩ := O0.storeK S0.2
  have HB5 := hid (hB5 w.heap.size w (by omega) H0.out)
  have HR5 := hid hR5
  clear hB5 hR5 S0 O0 H0 hO HB
  go_wp2
  refine bodyPost_ret (v := .agg (encS { s with a := R.at_ r d })) ?_ rfl ⟨rfl, HB5.out⟩
  exact results_stK Try.results52 _ rfl HR5.out
end Go.Proofs.Ytahaooghebmhnaa.B
