/-
  The few answers of pruning that the document fixes, over what the program's own functions answer.
-/
import Derived.Test.YtahaooghebmhnaaPruLawR
namespace Go.Proofs.Ytahaooghebmhnaa.M
def z3 : List I := [(5, 0, 0, 1), (6, 0, 0, 1), (6, 0, 0, 2)]
def z4 : List I := [(21, 1, 0, 7), (5, 0, 0, 1), (6, 0, 0, 1), (6, 0, 0, 2)]
def z2 : List I := [(6, 0, 0, 1), (6, 0, 0, 2)]
theorem z3_ok : ∀ i ∈ z3, okI i := by unfold okI; decide
theorem z4_ok : ∀ i ∈ z4, okI i := by unfold okI; decide
theorem z2_ok : ∀ i ∈ z2, okI i := by unfold okI; decide
theorem z3_B : rightB z3 = true := by decide +kernel
theorem z3_right : right z3 := right_of.1 z3_B
theorem z4_right : right z4 := right_of.1 (by decide +kernel)
theorem z2_right : right z2 := right_of.1 (by decide +kernel)
theorem z3_prune : pruneL z3 = [(6, 0, 0, 2)] := by decide +kernel
theorem z4_prune : pruneL z4 = [(21, 0, 1, 7), (6, 0, 0, 1), (6, 0, 0, 2)] := by decide +kernel
theorem z2_nd : nd (strL z2) 0 = true ∧ nd (strL z2) 1 = false := by decide +kernel
theorem z3_end : endI z3 0 = 2 := by decide +kernel
end Go.Proofs.Ytahaooghebmhnaa.M
namespace Go.Proofs.Ytahaooghebmhnaa.B
open Go.ChangeShapes Go.WideShapes Go.ChangeAt Go.RowKit
open Go.Sort hiding Below
set_option linter.unusedVariables false

set_option maxHeartbeats 3200000 in
set_option maxRecDepth 1000000 in
theorem awake9 (hP : PrOk) (hP' : PrBad) (hE : EnOk) (hN : NdOk) : Aw9 := by
  intro w
  have HP := hid hP
  have HP' := hid hP'
  have HE := hid hE
  have HN := hid hN
  clear hP hP' hE hN
  go_enter Try.func8, Try.ntmps8
  go_wp2_with fail
  obtain ⟨W0, hW0⟩ : ∃ W0, (w.alloc (.cells #[.int .u16 6, .int .u8 0, .int .u8 0, .int .u32 1] 46)).alloc (.cells #[.int .u16 6, .int .u8 0, .int .u8 0, .int .u32 2] 46) = W0 := ⟨_, rfl⟩
  have hs0 : W0.heap.size = w.heap.size + 1 + 1 := by rw [← hW0]; simp
  have HA := hid (show At W0 w.heap.size 6 0 0 1 ∧ At W0 (w.heap.size + 1) 6 0 0 2 ∧ Below w.heap.size w W0 from by
    rw [← hW0]
    refine ⟨(At.new w 6 0 0 1).alloc _, ?_, ((Below.refl _ w).alloc (Nat.le_refl _) _).alloc (by simp) _⟩
    have := At.new (w.alloc (.cells #[.int .u16 6, .int .u8 0, .int .u8 0, .int .u32 1] 46)) 6 0 0 2
    simpa using this)
  rw [hW0]
  obtain ⟨h2, hh2⟩ : ∃ h2, w.heap.size + 1 = h2 := ⟨_, rfl⟩
  rw [hh2] at hs0 HA ⊢
  have hL3 := ly_lit W0 M.z3 3 rfl (by unfold maxLen; omega) (by omega)
  rw [hs0] at hL3
  refine (HP.out (h2 + 1) 0 3 3 M.z3 rfl (by omega) M.z3_ok M.z3_right _ hL3).mono ?_
  rintro e w1 ⟨a1, c1, rfl, hx1, hb⟩
  rw [M.z3_prune] at hx1 ⊢
  obtain ⟨b1, o1, rfl, hy1⟩ := hx1.ly (by simp)
  replace HA := hid (show At w1 w.heap.size 6 0 0 1 ∧ At w1 h2 6 0 0 2 ∧ Below w.heap.size w w1 from ⟨(HA.out.1.alloc _).below hb, (HA.out.2.1.alloc _).below hb, (al_stp (hid HA.out.2.2) hb).out⟩)
  have HY1 := hid hy1
  clear hx1 hy1 hb hL3 hs0 hW0 hh2
  go_wp2_with fail
  refine (HP'.out none 0 0 [] rfl (by omega) (fun i hi => by cases hi) M.g0_bad _ (.inl rfl)).mono ?_
  rintro e w2 ⟨a2, c2, rfl, hb⟩
  replace HA := hid (show At w2 w.heap.size 6 0 0 1 ∧ At w2 h2 6 0 0 2 ∧ Below w.heap.size w w2 from ⟨HA.out.1.below hb, HA.out.2.1.below hb, (stp (hid HA.out.2.2) hb).out⟩)
  replace HY1 := hid (HY1.out.below hb)
  obtain ⟨f0, f1, f2, f3, _⟩ := HA.out.1.cells
  obtain ⟨g0, g1, g2, g3, _⟩ := HA.out.2.1.cells
  clear hb
  go_wp2_with fail
  refine (HP.out w2.heap.size 0 4 4 M.z4 rfl (by omega) M.z4_ok M.z4_right _ (ly_lit w2 M.z4 4 rfl (by unfold maxLen; omega) (by omega))).mono ?_
  rintro e w3 ⟨a3, c3, rfl, hx3, hb⟩
  rw [M.z4_prune] at hx3 ⊢
  obtain ⟨b3, o3, rfl, hy3⟩ := hx3.ly (by simp)
  replace HA := hid (show At w3 w.heap.size 6 0 0 1 ∧ At w3 h2 6 0 0 2 ∧ Below w.heap.size w w3 from ⟨(HA.out.1.alloc _).below hb, (HA.out.2.1.alloc _).below hb, (al_stp (hid HA.out.2.2) hb).out⟩)
  replace HY1 := hid ((HY1.out.below (al _ _)).below hb)
  have HY3 := hid hy3
  clear hx3 hy3 hb f0 f1 f2 f3 g0 g1 g2 g3
  obtain ⟨f0, f1, f2, f3, _⟩ := HA.out.1.cells
  obtain ⟨g0, g1, g2, g3, _⟩ := HA.out.2.1.cells
  go_wp2_with fail
  refine (HN.out w3.heap.size 0 2 2 M.z2 rfl (by omega) M.z2_ok M.z2_right _ (ly_lit w3 M.z2 2 rfl (by unfold maxLen; omega) (by omega))).mono ?_
  rintro e w4 ⟨g4, c4, rfl, hx4, hb⟩
  replace HA := hid (show At w4 w.heap.size 6 0 0 1 ∧ At w4 h2 6 0 0 2 ∧ Below w.heap.size w w4 from ⟨(HA.out.1.alloc _).below hb, (HA.out.2.1.alloc _).below hb, (al_stp (hid HA.out.2.2) hb).out⟩)
  replace HY1 := hid ((HY1.out.below (al _ _)).below hb)
  replace HY3 := hid ((HY3.out.below (al _ _)).below hb)
  have r0 := hx4.cell 0 (by omega)
  have r1 := hx4.cell 1 (by omega)
  simp only [M.z2_nd.1, M.z2_nd.2] at r0 r1
  clear hx4 hb f0 f1 f2 f3 g0 g1 g2 g3
  obtain ⟨f0, f1, f2, f3, _⟩ := HA.out.1.cells
  obtain ⟨g0, g1, g2, g3, _⟩ := HA.out.2.1.cells
  obtain ⟨x0, x1, x2, x3⟩ := HY1.out.2 0 (by simp)
  obtain ⟨y0, y1, y2, y3⟩ := HY3.out.2 0 (by simp)
  obtain ⟨z0, z1, z2, z3⟩ := HY3.out.2 2 (by simp)
  simp only [List.getElem_cons_zero, List.getElem_cons_succ, Nat.zero_mul, Nat.add_zero] at x0 x1 x2 x3 y0 y1 y2 y3 z0 z1 z2 z3
  go_wp2_with fail
  simp only [List.append_eq, List.cons_append, List.nil_append]
  refine wp_region_still_tail 61 (by kernel_rfl) (by kernel_rfl) ?_
  change wpStill _ _ (World.drew w4) (fun a' => wpList _ _ _ _ a' (World.drew w4)) _ _
  simp only [List.take_succ_cons, List.take_zero, List.drop_succ_cons, List.drop_zero]
  repeat still_step
  refine wpStill_nil ?_
  have hEn := HE.out (some ⟨w4.heap.size, 0, none⟩) 3 3 M.z3 0 rfl (by omega) M.z3_ok (by decide) _ (ly_lit (World.drew w4) M.z3 3 rfl (by unfold maxLen; omega) (by omega)).lies
  rw [M.z3_B, if_pos rfl, M.z3_end] at hEn
  have HB := hid (show Below w.heap.size w (World.drew w4) from HA.out.2.2.drew)
  have HEn := hid hEn
  clear hEn HA HY1 HY3 f0 f1 f2 f3 g0 g1 g2 g3 x0 x1 x2 x3 y0 y1 y2 y3 z0 z1 z2 z3 r0 r1
  go_wp2_with fail
  refine HEn.out.mono ?_
  rintro e w5 ⟨rfl, hb⟩
  replace HB := al_stp HB hb
  clear hb
  go_wp2
  go_ret
  exact ⟨rfl, HB.out⟩
end Go.Proofs.Ytahaooghebmhnaa.B
