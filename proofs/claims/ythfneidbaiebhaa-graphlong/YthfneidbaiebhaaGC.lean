/-
  The reference's Right of layer 8; the few answers of the graph that the document fixes: as walks over the Go text.
-/
import Derived.Test.YthfneidbaiebhaaGB
import Derived.Test.YthfneidbaiebhaaHC
namespace Go.Proofs.Ythfneidbaiebhaa.M
def g4 : List I := [(32, 0, 0, 0), (21, 0, 1, 5), (6, 0, 0, 1), (6, 0, 0, 2)]
def g3 : List I := [(5, 0, 0, 1), (6, 0, 0, 0), (6, 0, 0, 0)]
theorem g4_ok : ∀ i ∈ g4, okI i := by unfold okI; decide
theorem g3_ok : ∀ i ∈ g3, okI i := by unfold okI; decide
theorem g4_right : right g4 := right_of.1 (by decide +kernel)
theorem g3_right : right g3 := right_of.1 (by decide +kernel)
theorem g4_bad : rightB (g4.take 1) = false := by decide +kernel
theorem g0_bad : rightB [] = false := by decide +kernel
theorem g4_leads : leads g4 = [0, 2, 3] := by decide +kernel
theorem g4_n0 : (beh 1 (at0 g4 1)).map (numb g4) = [1, 2] := by decide +kernel
theorem g4_to0 : toOf g4 0 = 1 := by decide +kernel
theorem g4_to3 : toOf g4 3 = 3 := by decide +kernel
theorem g4_far : far g4 0 = 3 := by decide +kernel
theorem g4_beh : beh 1 (at0 g4 1) = [2, 3] := by decide +kernel
theorem g4_into : (List.range 4).map (into g4) = [0, 1, 1, 1] := by decide +kernel
theorem g3_rch : rch g3 0 = true ∧ rch g3 1 = false ∧ rch g3 2 = true := by decide +kernel
end Go.Proofs.Ythfneidbaiebhaa.M
namespace Go.Proofs.Ythfneidbaiebhaa.B
open Go.ChangeShapes Go.WideShapes Go.ChangeAt Go.RowKit
open Go.Sort hiding Below
set_option linter.unusedVariables false

set_option maxHeartbeats 1600000 in
set_option maxRecDepth 100000 in
theorem rright7 (a : Option Addr) (n cap : Nat) (l : List M.I) (hln : l.length = n) (hn : n ≤ 4096) (ok : ∀ i ∈ l, M.okI i) (w : World) (hl : Lies w a l) (q : Bool) (hq : M.rightB l = q) :
    Calls Try.prog 32 #[.slice a n cap] w fun e w' => e = .returned (.bool q) ∧ Below w.heap.size w w' := by
  obtain ⟨⟨p, e0⟩, hp⟩ : ∃ x, M.check l = x := ⟨_, rfl⟩
  have hC := rcheck_any a n cap l hln hn ok w hl p e0 hp
  have HR := hid (show (e0 == 0) = q by unfold M.rightB at hq; rw [hp] at hq; exact hq)
  clear hq hp hl ok
  go_enter Try.func32, Try.ntmps32
  go_wp2_with fail
  refine hC.mono ?_
  clear hC
  rintro e w1 ⟨rfl, hb⟩
  have HB := hid hb
  clear hb
  go_wp2
  go_ret
  exact ⟨by rw [← HR.out]; rfl, HB.out⟩
set_option maxHeartbeats 1600000 in
set_option maxRecDepth 100000 in
theorem rright8 (a : Option Addr) (n cap : Nat) (l : List M.I) (hln : l.length = n) (hn : n ≤ 4096) (ok : ∀ i ∈ l, M.okI i) (w : World) (hl : Lies w a l) (q : Bool) (hq : M.rightB l = q) :
    Calls Try.prog 16 #[.slice a n cap] w fun e w' => e = .returned (.bool q) ∧ Below w.heap.size w w' := by
  have HC := hid (rright7 a n cap l hln hn ok w hl q hq)
  clear hq hl ok hln
  go_enter Try.func16, Try.ntmps16
  go_wp2_with fail
  refine HC.out.mono ?_
  rintro e w1 ⟨rfl, hb⟩
  have HB := hid hb
  clear hb HC
  go_wp2
  go_ret
  exact ⟨rfl, HB.out⟩

/-- what the walk reads of the three blocks -/
structure AwB (W : World) (g : Nat) (a : Option Addr) (c : Nat) : Prop where
  lt : g < W.heap.size
  c1 : W.cell? ⟨g, 1, none⟩ = some (.int .i64 1)
  c2 : W.cell? ⟨g, 2, none⟩ = some (.slice a 2 c)
  c6 : W.cell? ⟨g, 6, none⟩ = some (.int .i64 3)
  nx : Nx W a [1, 2]
theorem AwB.below {W W' : World} {g : Nat} {a : Option Addr} {c : Nat} (h : AwB W g a c) (hb : Below W.heap.size W W') : AwB W' g a c :=
  ⟨Nat.lt_of_lt_of_le h.lt hb.size, (hb.cell (p := ⟨g, 1, none⟩) h.lt).trans h.c1, (hb.cell (p := ⟨g, 2, none⟩) h.lt).trans h.c2, (hb.cell (p := ⟨g, 6, none⟩) h.lt).trans h.c6, h.nx.below hb⟩

set_option maxHeartbeats 3200000 in
set_option maxRecDepth 1000000 in
theorem awake_any (w : World) : Calls Try.prog 8 #[] w fun e w' => e = .returned (.bool true) ∧ Below w.heap.size w w' := by
  have HB := hid (al w (.cells (i4s M.g4).toArray 54))
  have HL := hid (ly_lit w M.g4 4 rfl (by unfold maxLen; omega) (by omega))
  go_enter Try.func8, Try.ntmps8
  go_wp2_with fail
  refine (gblocks_any w.heap.size 0 4 4 M.g4 rfl (by omega) M.g4_ok M.g4_right _ HL.out).mono ?_
  rintro e w1 ⟨g, cp, rfl, hx, hg, hb⟩
  have hln : (M.leads M.g4).length = 3 := by rw [M.g4_leads]; rfl
  rw [hln] at hx ⊢
  have hl0 : lf M.g4 0 = 0 := by unfold lf; rw [M.g4_leads]; rfl
  have hl2 : lf M.g4 2 = 3 := by unfold lf; rw [M.g4_leads]; rfl
  obtain ⟨a, ca, HX⟩ : ∃ a ca, Hid (AwB w1 g a ca) := by
    obtain ⟨x0, x1, _, a, ca, x4, x5, _⟩ := hx 0 (by omega)
    obtain ⟨y0, _⟩ := hx 2 (by omega)
    rw [hl0] at x0 x1 x4 x5
    rw [hl2] at y0
    have e1 : (M.blk M.g4 0).t = 1 := M.g4_to0
    have e2 : (M.blk M.g4 0).n = [1, 2] := by unfold M.blk; rw [M.g4_to0]; exact M.g4_n0
    rw [e1] at x1
    rw [e2] at x4 x5
    exact ⟨a, ca, hg, x1, x4, y0, x5⟩
  replace HL := hid (HL.out.below hb)
  replace HB := stp HB hb
  clear hb hx hg hln hl0 hl2
  go_wp2_with fail
  refine (gblocks_bad (some ⟨w.heap.size, 0, none⟩) 1 4 (M.g4.take 1) rfl (by omega) (fun i hi => M.g4_ok i (List.mem_of_mem_take hi)) _ (HL.out.take 1).lies M.g4_bad).mono ?_
  rintro e w2 ⟨rfl, hb⟩
  replace HL := hid (HL.out.below hb)
  replace HB := stp HB hb
  replace HX := hid (HX.out.below hb)
  clear hb
  go_wp2_with fail
  refine (glongest_any w.heap.size 0 4 4 M.g4 rfl (by omega) M.g4_ok M.g4_right _ HL.out).mono ?_
  rintro e w3 ⟨rfl, hb⟩
  rw [M.g4_far]
  replace HL := hid (HL.out.below hb)
  replace HB := stp HB hb
  replace HX := hid (HX.out.below hb)
  clear hb
  go_wp2_with fail
  refine (gReached w3.heap.size 0 3 3 M.g3 rfl (by omega) M.g3_ok M.g3_right _ (ly_lit w3 M.g3 3 rfl (by unfold maxLen; omega) (by omega))).mono ?_
  rintro e w4 ⟨gr, rfl, hR, hb, _⟩
  replace HL := hid ((HL.out.below (al _ _)).below hb)
  replace HB := al_stp HB hb
  replace HX := hid ((HX.out.below (al _ _)).below hb)
  have HR := hid hR
  clear hb hR
  have k1 := HX.out.c1
  have k2 := HX.out.c2
  go_wp2_with fail
  refine (same_ints a (some ⟨w4.heap.size, 0, none⟩) [1, 2] [1, 2] 2 2 ca 2 rfl rfl (by omega) (by omega) _ (HX.out.nx.below (al _ _)) (nx_new w4 [1, 2] 3)).mono ?_
  rintro e w5 ⟨rfl, hb⟩
  replace HL := hid ((HL.out.below (al _ _)).below hb)
  replace HB := al_stp HB hb
  replace HX := hid ((HX.out.below (al _ _)).below hb)
  replace HR := hid ((HR.out.below (al _ _)).below hb)
  clear hb k1 k2
  have k6 := HX.out.c6
  have r0 := HR.out.cell 0 (by omega)
  have r1 := HR.out.cell 1 (by omega)
  have r2 := HR.out.cell 2 (by omega)
  simp only [M.g3_rch.1, M.g3_rch.2.1, M.g3_rch.2.2] at r0 r1 r2
  have hdd : decide (([1, 2] : List Nat) = [1, 2]) = true := by decide
  rw [hdd]
  clear hdd
  go_wp2_with fail
  refine (gnext_ly w.heap.size 0 4 4 1 M.g4 rfl (by omega) (by decide) M.g4_ok M.g4_right _ HL.out [2, 3] M.g4_beh).mono ?_
  rintro e w6 ⟨a6, c6, rfl, hx6, _, hb⟩
  replace HL := hid (HL.out.below hb)
  replace HB := stp HB hb
  have HX6 := hid hx6
  clear hb hx6 k6 r0 r1 r2 HX HR
  go_wp2_with fail
  refine (same_ints a6 (some ⟨w6.heap.size, 0, none⟩) [2, 3] [2, 3] 2 2 c6 2 rfl rfl (by omega) (by omega) _ (HX6.out.below (al _ _)) (nx_new w6 [2, 3] 3)).mono ?_
  rintro e w7 ⟨rfl, hb⟩
  replace HL := hid ((HL.out.below (al _ _)).below hb)
  replace HB := al_stp HB hb
  have hdd : decide (([2, 3] : List Nat) = [2, 3]) = true := by decide
  rw [hdd]
  clear hdd hb HX6
  go_wp2_with fail
  refine (gInto w.heap.size 0 4 4 M.g4 rfl (by omega) M.g4_ok M.g4_right _ HL.out).mono ?_
  rintro e w8 ⟨gi, rfl, hR, hb, _⟩
  replace HB := stp HB hb
  have HX8 := hid (show Nx w8 (some ⟨gi, 0, none⟩) [0, 1, 1, 1] by rw [← M.g4_into]; exact row_nx hR)
  clear hb hR HL
  go_wp2_with fail
  refine (same_ints (some ⟨gi, 0, none⟩) (some ⟨w8.heap.size, 0, none⟩) [0, 1, 1, 1] [0, 1, 1, 1] 4 4 4 4 rfl rfl (by omega) (by omega) _ (HX8.out.below (al _ _)) (nx_new w8 [0, 1, 1, 1] 3)).mono ?_
  rintro e w9 ⟨rfl, hb⟩
  replace HB := al_stp HB hb
  have hdd : decide (([0, 1, 1, 1] : List Nat) = [0, 1, 1, 1]) = true := by decide
  rw [hdd]
  clear hdd hb HX8
  go_wp2_with fail
  refine (greached_bad none 0 0 [] rfl (by omega) (fun i hi => by cases hi) _ (.inl rfl) M.g0_bad).mono ?_
  rintro e w10 ⟨rfl, hb⟩
  replace HB := stp HB hb
  clear hb
  go_wp2
  go_ret
  exact ⟨rfl, HB.out⟩
end Go.Proofs.Ythfneidbaiebhaa.B
