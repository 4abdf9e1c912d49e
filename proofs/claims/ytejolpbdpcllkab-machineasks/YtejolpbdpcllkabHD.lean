/-
  The few answers of the machine that the document fixes, as a walk over the Go text: they are as it says.
-/
import Derived.Test.YtejolpbdpcllkabHC
import Derived.Test.YtejolpbdpcllkabH9
namespace Go.Proofs.Ytejolpbdpcllkab.M
def q0 : List I := [(32, 0, 0, 0), (21, 0, 1, 5), (6, 0, 0, 1), (6, 0, 0, 2)]
def q9 : List I := [(0, 0, 0, 9), (60, 0, 0, 0), (6, 0, 0, 7)]
def sx : S := { s0 with x := 3 }
def sp : S := { s0 with pc := 4 }
def se : S := { s0 with en := true }
def sb : S := { s0 with pc := 1, a := 6, x := 3 }
theorem q0_ok : ∀ i ∈ q0, okI i := by unfold okI; decide
theorem q9_ok : ∀ i ∈ q9, okI i := by unfold okI; decide
theorem q0_right : right q0 := right_of.1 (by decide +kernel)
theorem q9_right : right q9 := right_of.1 (by decide +kernel)
theorem q0_bad : rightB (q0.take 2) = false := by decide +kernel
end Go.Proofs.Ytejolpbdpcllkab.M
namespace Go.Proofs.Ytejolpbdpcllkab.B
open Go.ChangeShapes Go.WideShapes Go.ChangeAt Go.RowKit
open Go.Sort hiding Below
set_option linter.unusedVariables false
theorem aw1 : (M.run M.q0 (rc 5)).1.an = 1 := by decide +kernel
theorem aw2 : (M.run M.q0 (rc 6)).1.an = 2 := by decide +kernel
theorem aw3 : (M.run M.q0 (rc 6)).2 = [0, 1, 3] := by decide +kernel
theorem aw4 : M.stepA M.q0 (rc 6) M.sx = (M.sb, 0) := by kernel_rfl
theorem aw5 : M.stepA M.q0 (rc 6) M.sp = (M.s0, 2) := by kernel_rfl
theorem aw6 : M.stepA M.q0 (rc 6) M.se = (M.s0, 12) := by kernel_rfl
theorem lx : (encS M.s0).setIfInBounds 2 (.int .u32 3) = encS M.sx := rfl
theorem lp : (encS M.s0).setIfInBounds 0 (.int .i64 4) = encS M.sp := rfl
theorem le_ : (encS M.s0).setIfInBounds 19 (.bool true) = encS M.se := rfl
theorem lb : (((encS M.s0).setIfInBounds 0 (.int .i64 1)).setIfInBounds 1 (.int .u32 6)).setIfInBounds 2 (.int .u32 3) = encS M.sb := rfl
theorem aw7 : (M.run M.q9 R.zero).1.an = 0 := by decide +kernel
theorem okZ : R.okR R.zero := okzero
theorem ok6 : R.okR (rc 6) := ok_rc (by decide)
theorem ok5 : R.okR (rc 5) := ok_rc (by decide)
theorem okx : M.okS M.sx := ⟨M.ok0.a, ⟨by decide, by decide⟩, M.ok0.m, M.ok0.an⟩
theorem okp : M.okS M.sp := ⟨M.ok0.a, M.ok0.x, M.ok0.m, M.ok0.an⟩
theorem oke : M.okS M.se := ⟨M.ok0.a, M.ok0.x, M.ok0.m, M.ok0.an⟩
theorem same_self {s : M.S} : M.sameS s s = true := by unfold M.sameS; simp
theorem new_st (w : World) (u : M.S) (hu : u.m.length = 16) : ∃ W2, (storeCells ⟨w.heap.size, 0, none⟩ (encS u).toList 0).run Try.prog (w.alloc (.cells (encS M.s0) 39)) = .ok () W2 ∧ St W2 w.heap.size 39 u ∧ Below w.heap.size w W2 := by
  obtain ⟨W2, hst, hR, hO, hsz, hB⟩ := (St.new w 39 M.s0 rfl).storeK hu
  exact ⟨W2, hst, hR, hB _ _ (Nat.le_refl _) (al w _)⟩

set_option maxHeartbeats 3200000 in
set_option maxRecDepth 1000000 in
theorem awake_any (w : World) : Calls Try.prog 6 #[] w fun e w' => e = .returned (.bool true) ∧ Below w.heap.size w w' := by
  have hX := RB.lcf_eq
  have hz := s0_lit
  have HB := hid (al w (.cells (i4s M.q0).toArray 27))
  have HL := hid (ly_lit w M.q0 4 rfl (by unfold maxLen; omega) (by omega))
  go_enter Try.func6, Try.ntmps6
  go_wp2_with fail
  refine (mrun_any w.heap.size 0 4 4 M.q0 (rc 5) rfl (by omega) M.q0_ok ok5 _ HL.out M.q0_right).mono ?_
  rintro e w1 ⟨rfl, hb⟩
  rw [aw1]
  replace HL := hid (HL.out.below hb)
  replace HB := stp HB hb
  clear hb
  go_wp2_with fail
  refine (mrun_any w.heap.size 0 4 4 M.q0 (rc 6) rfl (by omega) M.q0_ok ok6 _ HL.out M.q0_right).mono ?_
  rintro e w2 ⟨rfl, hb⟩
  rw [aw2]
  replace HL := hid (HL.out.below hb)
  replace HB := stp HB hb
  clear hb
  go_wp2_with fail
  refine (mrun_bad (some ⟨w.heap.size, 0, none⟩) 2 4 (M.q0.take 2) R.zero rfl (by omega) (fun i hi => M.q0_ok i (List.mem_of_mem_take hi)) _ (HL.out.take 2).lies M.q0_bad).mono ?_
  rintro e w3 ⟨rfl, hb⟩
  replace HL := hid (HL.out.below hb)
  replace HB := stp HB hb
  clear hb
  go_wp2_with fail
  refine (msteps_any w.heap.size 0 4 4 M.q0 (rc 6) rfl (by omega) M.q0_ok ok6 _ HL.out M.q0_right).mono ?_
  rintro e w4 ⟨rfl, hb⟩
  rw [aw3]
  replace HL := hid (HL.out.below hb)
  replace HB := stp HB hb
  clear hb
  go_wp2_with fail
  refine (mtrace_any w.heap.size 0 4 4 M.q0 (rc 6) rfl (by omega) M.q0_ok ok6 _ HL.out M.q0_right).mono ?_
  rintro e w5 ⟨g, cp, rfl, hx, hb⟩
  rw [aw3] at hx ⊢
  replace HL := hid (HL.out.below hb)
  replace HB := stp HB hb
  have HX := hid hx
  clear hb hx
  have hlx := lx
  have hlp := lp
  have hle := le_
  have hlb := lb
  go_wp2_with fail
  refine (step_any (some ⟨w.heap.size, 0, none⟩) 4 4 M.q0 (rc 6) M.sx rfl (by omega) M.q0_ok ok6 okx _ HL.out.lies).mono ?_
  rintro e w6 ⟨rfl, hb⟩
  rw [aw4]
  have h6 := hb
  obtain ⟨W6, hst6, hS6, hb6⟩ := new_st w6 M.sb rfl
  have hsz6 : (encS M.sb).size = 21 := rfl
  replace HL := hid ((HL.out.below hb).below hb6)
  replace HB := stp (stp HB hb) hb6
  replace HX := hid ((HX.out.below hb).below hb6)
  clear hb hb6 h6
  go_wp2_with fail
  refine (step_any (some ⟨w.heap.size, 0, none⟩) 4 4 M.q0 (rc 6) M.sp rfl (by omega) M.q0_ok ok6 okp _ HL.out.lies).mono ?_
  rintro e w7 ⟨rfl, hb⟩
  rw [aw5]
  obtain ⟨W7, hst7, _, hb7⟩ := new_st w7 M.s0 rfl
  have hsz7 : (encS M.s0).size = 21 := rfl
  replace HL := hid ((HL.out.below hb).below hb7)
  replace HB := stp (stp HB hb) hb7
  replace HX := hid ((HX.out.below hb).below hb7)
  replace hS6 := (hS6.below hb).below hb7
  clear hb hb7 hst6
  go_wp2_with fail
  refine (step_any (some ⟨w.heap.size, 0, none⟩) 4 4 M.q0 (rc 6) M.se rfl (by omega) M.q0_ok ok6 oke _ HL.out.lies).mono ?_
  rintro e w8 ⟨rfl, hb⟩
  rw [aw6]
  obtain ⟨W8, hst8, _, hb8⟩ := new_st w8 M.s0 rfl
  replace HB := stp (stp HB hb) hb8
  replace HX := hid ((HX.out.below hb).below hb8)
  replace hS6 := (hS6.below hb).below hb8
  clear hb hb8 hst7 HL
  go_wp2_with fail
  refine (mrun_any W8.heap.size 0 3 3 M.q9 R.zero rfl (by omega) M.q9_ok okZ _ (ly_lit W8 M.q9 3 rfl (by unfold maxLen; omega) (by omega)) M.q9_right).mono ?_
  rintro e w9 ⟨rfl, hb⟩
  rw [aw7]
  replace HB := al_stp HB hb
  replace HX := hid ((HX.out.below (al _ _)).below hb)
  replace hS6 := (hS6.alloc _).below hb
  clear hb hst8
  have hl21 := hS6.load
  have hgK := guardK
  have heK := fun W => eqlK (s := M.sb) (u := M.sb) rfl rfl W
  have hss : M.sameS M.sb M.sb = true := same_self
  have v2 : w9.cell? ⟨g, 2, none⟩ = some (.int .i64 3) := by
    rcases HX.out with h | ⟨g', e, _, h⟩
    · cases h
    · injection e with e
      injection e with e
      subst e
      exact h 2 (by decide)
  clear HX hS6
  go_wp2
  go_ret
  exact ⟨rfl, HB.out⟩
end Go.Proofs.Ytejolpbdpcllkab.B
