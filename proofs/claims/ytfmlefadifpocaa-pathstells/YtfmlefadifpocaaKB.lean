/-
  The answers that layer 10's statements ask for first; the reference's Right of layer 10.
-/
import Derived.Test.YtfmlefadifpocaaKA
import Derived.Test.YtfmlefadifpocaaGC
namespace Go.Proofs.Ytfmlefadifpocaa.M
def p3 : List I := [(21, 0, 1, 5), (6, 0, 0, 1), (6, 0, 0, 2)]
theorem p3_ok : ∀ i ∈ p3, okI i := by unfold okI; decide
theorem p3_right : right p3 := right_of.1 (by decide +kernel)
theorem p3_ways : ways p3 0 = 2 := by decide +kernel
theorem p3_ways2 : ways p3 2 = 1 := by decide +kernel
theorem p3_work : work p3 0 = 4 := by decide +kernel
theorem p0_bad : rightB [] = false := by decide +kernel
end Go.Proofs.Ytfmlefadifpocaa.M
namespace Go.Proofs.Ytfmlefadifpocaa.B
open Go.ChangeShapes Go.WideShapes Go.ChangeAt Go.RowKit
open Go.Sort hiding Below
set_option linter.unusedVariables false

set_option maxHeartbeats 1600000 in
set_option maxRecDepth 100000 in
theorem rright10 (a : Option Addr) (n cap : Nat) (l : List M.I) (hln : l.length = n) (hn : n ≤ 4096) (ok : ∀ i ∈ l, M.okI i) (w : World) (hl : Lies w a l) (q : Bool) (hq : M.rightB l = q) :
    Calls Try.prog 12 #[.slice a n cap] w fun e w' => e = .returned (.bool q) ∧ Below w.heap.size w w' := by
  have HC := hid (rright8 a n cap l hln hn ok w hl q hq)
  clear hq hl ok hln
  go_enter Try.func12, Try.ntmps12
  go_wp2_with fail
  refine HC.out.mono ?_
  rintro e w1 ⟨rfl, hb⟩
  have HB := hid hb
  clear hb HC
  go_wp2
  go_ret
  exact ⟨rfl, HB.out⟩
theorem rt10 : Rt10 := fun a n cap L q hln hn ok hq W hl => rright10 a n cap L hln hn ok W hl q hq

set_option maxHeartbeats 3200000 in
set_option maxRecDepth 1000000 in
theorem aw10 : Aw10 := by
  intro w
  have HB := hid (al w (.cells (i4s M.p3).toArray 38))
  have HL := hid (ly_lit w M.p3 3 rfl (by unfold maxLen; omega) (by omega))
  have h1 : M.held (M.ways M.p3 0) = 2 := by rw [M.p3_ways]; rfl
  have h2 : M.held (M.work M.p3 0) = 4 := by rw [M.p3_work]; rfl
  have h3 : M.held (M.ways M.p3 0 * 3) = 6 := by rw [M.p3_ways]; rfl
  have h4 : M.held (M.ways M.p3 2) = 1 := by rw [M.p3_ways2]; rfl
  have HC := hid (fun W (h : Ly W w.heap.size 0 M.p3) => ctOk w.heap.size 0 3 3 M.p3 rfl (by omega) M.p3_ok M.p3_right W h)
  have HW := hid (fun W (h : Ly W w.heap.size 0 M.p3) => wkOk w.heap.size 0 3 3 M.p3 rfl (by omega) M.p3_ok M.p3_right W h)
  have HE := hid (fun W (h : Ly W w.heap.size 0 M.p3) => egOk w.heap.size 0 3 3 M.p3 rfl (by omega) M.p3_ok M.p3_right W h)
  have HF := hid (fun W (h : Ly W w.heap.size 0 M.p3) => frOk w.heap.size 0 3 3 M.p3 rfl (by omega) M.p3_ok M.p3_right W h)
  dsimp only at HC HW HE HF
  rw [h1] at HC
  rw [h2] at HW
  rw [h3] at HE
  have HX := hid (And.intro h1 h4)
  clear h1 h2 h3 h4
  go_enter Try.func7, Try.ntmps7
  go_wp2_with fail
  refine (HC.out _ HL.out).mono ?_
  rintro e w1 ⟨rfl, hb⟩
  replace HL := hid (HL.out.below hb)
  replace HB := stp HB hb
  clear hb HC
  go_wp2_with fail
  refine (HW.out _ HL.out).mono ?_
  rintro e w2 ⟨rfl, hb⟩
  replace HL := hid (HL.out.below hb)
  replace HB := stp HB hb
  clear hb HW
  go_wp2_with fail
  refine (HE.out _ HL.out).mono ?_
  rintro e w3 ⟨rfl, hb⟩
  replace HL := hid (HL.out.below hb)
  replace HB := stp HB hb
  clear hb HE
  go_wp2_with fail
  refine (ctBad none 0 0 [] rfl (by omega) (fun i hi => by cases hi) M.p0_bad _ (.inl rfl)).mono ?_
  rintro e w4 ⟨rfl, hb⟩
  replace HL := hid (HL.out.below hb)
  replace HB := stp HB hb
  clear hb
  go_wp2_with fail
  refine (HF.out _ HL.out).mono ?_
  rintro e w5 ⟨⟨g, c, rfl, hR⟩, hb⟩
  replace HB := stp HB hb
  have c0 := hR.cell 0 (by omega)
  have c2 := hR.cell 2 (by omega)
  simp only [HX.out.1] at c0
  simp only [HX.out.2] at c2
  clear hb HF hR HX HL
  go_wp2
  go_ret
  exact ⟨rfl, HB.out⟩
end Go.Proofs.Ytfmlefadifpocaa.B
