/-
  The walks of the statements PathsTells and PathsPrune, over what the program's own functions answer.
-/
import Derived.Test.YtfmlefadifpocaaJY
import Derived.Test.YtfmlefadifpocaaJG
import Derived.Test.YtfmlefadifpocaaJF
namespace Go.Proofs.Ytfmlefadifpocaa.B
open Go.ChangeShapes Go.WideShapes Go.ChangeAt Go.RowKit
open Go.Sort hiding Below
set_option linter.unusedVariables false

def Aw10 : Prop := ∀ W, Calls Try.prog 7 #[] W fun e w' => e = .returned (.bool true) ∧ Below W.heap.size W w'
def Rt10 : Prop := ∀ (a : Option Addr) (n cap : Nat) (L : List M.I) (q : Bool), L.length = n → n ≤ 4096 → (∀ i ∈ L, M.okI i) → M.rightB L = q → ∀ W, Lies W a L → Calls Try.prog 12 #[.slice a n cap] W fun e w' => e = .returned (.bool q) ∧ Below W.heap.size W w'
/-- what a filter's list is asked, in whatever world -/
def OnF (F : Nat) (Q : List M.I → Nat → World → Ending → World → Prop) : Prop := ∀ (b o n cap : Nat) (L : List M.I), L.length = n → n ≤ 4096 → (∀ i ∈ L, M.okI i) → M.right L → ∀ W, Ly W b o L → Calls Try.prog F #[.slice (some ⟨b, o, none⟩) n cap] W fun e w' => Q L n W e w' ∧ Below W.heap.size W w'
def OnB (F : Nat) (Q : Ending → Prop) : Prop := ∀ (a : Option Addr) (n cap : Nat) (L : List M.I), L.length = n → n ≤ 4096 → (∀ i ∈ L, M.okI i) → M.rightB L = false → ∀ W, Lies W a L → Calls Try.prog F #[.slice a n cap] W fun e w' => Q e ∧ Below W.heap.size W w'
def CtOk : Prop := OnF 8 fun L n W e w' => e = .returned (.tuple #[.int .u64 ((M.held (M.ways L 0) : Nat) : Int), .int .i64 0])
def WkOk : Prop := OnF 9 fun L n W e w' => e = .returned (.tuple #[.int .u64 ((M.held (M.work L 0) : Nat) : Int), .int .i64 0])
def EgOk : Prop := OnF 10 fun L n W e w' => e = .returned (.tuple #[.int .u64 ((M.held (M.ways L 0 * n) : Nat) : Int), .int .i64 0])
def FrOk : Prop := OnF 11 fun L n W e w' => ∃ g c, e = .returned (.slice (some ⟨g, 0, none⟩) n c) ∧ Row w' g n (fun j => .int .u64 ((M.held (M.ways L j) : Nat) : Int))
def PrOk10 : Prop := OnF 16 fun L n W e w' => ∃ a c, e = .returned (.tuple #[.slice a (M.pruneL L).length c, .int .i64 0]) ∧ Lies w' a (M.pruneL L)
def CtBad : Prop := OnB 8 fun e => e = .returned (.tuple #[.int .u64 0, .int .i64 1])
def WkBad : Prop := OnB 9 fun e => e = .returned (.tuple #[.int .u64 0, .int .i64 1])
def EgBad : Prop := OnB 10 fun e => e = .returned (.tuple #[.int .u64 0, .int .i64 1])
def FrBad : Prop := OnB 11 fun e => ∃ a c, e = .returned (.slice a 0 c)

set_option maxHeartbeats 1600000 in
set_option maxRecDepth 100000 in
theorem htells_big (hAw : Aw10) (a : Option Addr) (n cap : Nat) (hn : 300 < n) (w : World) :
    Calls Try.prog 3 #[.slice a n cap] w fun e w' => e = .returned (.bool true) ∧ Below w.heap.size w w' := by
  have hd : decide (300 < (n : Int)) = true := decide_eq_true (by omega)
  have HB := hid (Below.refl w.heap.size w)
  have HAw := hid hAw
  clear hn hAw
  go_enter Try.func3, Try.ntmps3
  go_wp2_with fail
  refine (HAw.out _).mono ?_
  rintro e w1 ⟨rfl, hb⟩
  replace HB := stp HB hb
  clear hb
  go_wp2_with fail
  refine (HAw.out _).mono ?_
  rintro e w2 ⟨rfl, hb⟩
  replace HB := stp HB hb
  clear hb
  go_wp2
  go_ret
  exact ⟨rfl, HB.out⟩
set_option maxHeartbeats 3200000 in
set_option maxRecDepth 1000000 in
theorem htells_bad (hAw : Aw10) (hRt : Rt10) (hC : CtBad) (hW : WkBad) (hE : EgBad) (hF : FrBad) (a : Option Addr) (n cap : Nat) (l : List M.I) (hln : l.length = n) (hn : n ≤ 300) (ok : ∀ i ∈ l, M.okI i) (hbad : M.rightB l = false) (w : World) (hl : Lies w a l) :
    Calls Try.prog 3 #[.slice a n cap] w fun e w' => e = .returned (.bool true) ∧ Below w.heap.size w w' := by
  have hd : decide (300 < (n : Int)) = false := decide_eq_false (by omega)
  have HB := hid (Below.refl w.heap.size w)
  have HAw := hid hAw
  have HC := hid (fun W (h : Lies W a l) => hC a n cap l hln (by omega) ok hbad W h)
  have HW := hid (fun W (h : Lies W a l) => hW a n cap l hln (by omega) ok hbad W h)
  have HE := hid (fun W (h : Lies W a l) => hE a n cap l hln (by omega) ok hbad W h)
  have HF := hid (fun W (h : Lies W a l) => hF a n cap l hln (by omega) ok hbad W h)
  dsimp only at HC HW HE HF
  have HRt := hid (fun W (h : Lies W a l) => hRt a n cap l false hln (by omega) ok hbad W h)
  have HL := hid hl
  clear hAw hC hW hE hF hRt hln ok hbad hl
  go_enter Try.func3, Try.ntmps3
  go_wp2_with fail
  refine (HAw.out _).mono ?_
  rintro e w1 ⟨rfl, hb⟩
  replace HB := stp HB hb
  clear hb
  go_wp2_with fail
  refine (HC.out _ (HL.out.below HB.out)).mono ?_
  rintro e w2 ⟨rfl, hb⟩
  replace HB := stp HB hb
  clear hb
  go_wp2_with fail
  refine (HW.out _ (HL.out.below HB.out)).mono ?_
  rintro e w3 ⟨rfl, hb⟩
  replace HB := stp HB hb
  clear hb
  go_wp2_with fail
  refine (HE.out _ (HL.out.below HB.out)).mono ?_
  rintro e w4 ⟨rfl, hb⟩
  replace HB := stp HB hb
  clear hb
  go_wp2_with fail
  refine (HF.out _ (HL.out.below HB.out)).mono ?_
  rintro e w5 ⟨⟨a5, c5, rfl⟩, hb⟩
  replace HB := stp HB hb
  clear hb
  go_wp2_with fail
  refine (HRt.out _ (HL.out.below HB.out)).mono ?_
  rintro e w6 ⟨rfl, hb⟩
  replace HB := stp HB hb
  clear hb
  go_wp2
  go_ret
  exact ⟨rfl, HB.out⟩
set_option maxHeartbeats 3200000 in
set_option maxRecDepth 1000000 in
theorem htells_good (hAw : Aw10) (hRt : Rt10) (hC : CtOk) (hW : WkOk) (hE : EgOk) (hF : FrOk) (b o n cap : Nat) (l : List M.I) (hln : l.length = n) (hn : n ≤ 300) (ok : ∀ i ∈ l, M.okI i) (hr : M.right l) (w : World) (hl : Ly w b o l) :
    Calls Try.prog 3 #[.slice (some ⟨b, o, none⟩) n cap] w fun e w' => e = .returned (.bool true) ∧ Below w.heap.size w w' := by
  have hd : decide (300 < (n : Int)) = false := decide_eq_false (by omega)
  have h0 : 0 < n := by rw [← hln]; exact ((M.right_iff l).1 hr).1.1
  have i0 : (0 : Int) < (n : Int) := by omega
  have HB := hid (Below.refl w.heap.size w)
  have HAw := hid hAw
  have HC := hid (fun W (h : Ly W b o l) => hC b o n cap l hln (by omega) ok hr W h)
  have HW := hid (fun W (h : Ly W b o l) => hW b o n cap l hln (by omega) ok hr W h)
  have HE := hid (fun W (h : Ly W b o l) => hE b o n cap l hln (by omega) ok hr W h)
  have HF := hid (fun W (h : Ly W b o l) => hF b o n cap l hln (by omega) ok hr W h)
  have HRt := hid (fun W (h : Ly W b o l) => hRt (some ⟨b, o, none⟩) n cap l true hln (by omega) ok (M.right_of.2 hr) W h.lies)
  dsimp only at HC HW HE HF
  have HFR := hid (fun W (h : Ly W b o l) => rfrom_any b o n cap l hln (by omega) ok hr W h)
  have HWR := hid (fun W (h : Ly W b o l) => rwork_any b o n cap l hln (by omega) ok hr W h)
  have HER := hid (fun W (h : Ly W b o l) => renough_any b o n cap l hln (by omega) ok hr W h)
  have hb1 : M.held (M.work l 0) ≤ M.held (M.ways l 0 * n) := M.held_mono (by
    have := M.work_le hr ok l.length 0 (by omega) (by omega)
    rw [Nat.sub_zero, hln] at this
    exact this)
  have hb2 : M.held (M.ways l 0) ≤ M.held (M.work l 0) := M.held_mono (M.ways_le_work hr ok (by omega))
  obtain ⟨A, hA⟩ : ∃ A, M.held (M.ways l 0) = A := ⟨_, rfl⟩
  obtain ⟨B, hB⟩ : ∃ B, M.held (M.work l 0) = B := ⟨_, rfl⟩
  obtain ⟨C, hCC⟩ : ∃ C, M.held (M.ways l 0 * n) = C := ⟨_, rfl⟩
  rw [hA] at HC hb2
  rw [hB] at HW HWR hb1 hb2
  rw [hCC] at HE HER hb1
  have d1 : decide (B ≤ C) = true := decide_eq_true hb1
  have d2 : decide (A ≤ B) = true := decide_eq_true hb2
  have HAA := hid hA
  have HL := hid hl
  clear hAw hC hW hE hF hRt hln ok hr hl hA hB hCC hb1 hb2
  go_enter Try.func3, Try.ntmps3
  go_wp2_with fail
  refine (HAw.out _).mono ?_
  rintro e w1 ⟨rfl, hb⟩
  replace HB := stp HB hb
  clear hb
  go_wp2_with fail
  refine (HC.out _ (HL.out.below HB.out)).mono ?_
  rintro e w2 ⟨rfl, hb⟩
  replace HB := stp HB hb
  clear hb
  go_wp2_with fail
  refine (HW.out _ (HL.out.below HB.out)).mono ?_
  rintro e w3 ⟨rfl, hb⟩
  replace HB := stp HB hb
  clear hb
  go_wp2_with fail
  refine (HE.out _ (HL.out.below HB.out)).mono ?_
  rintro e w4 ⟨rfl, hb⟩
  replace HB := stp HB hb
  clear hb
  go_wp2_with fail
  refine (HF.out _ (HL.out.below HB.out)).mono ?_
  rintro e w5 ⟨⟨g5, c5, rfl, hx5⟩, hb⟩
  replace HB := stp HB hb
  have HX5 := hid hx5
  clear hb hx5
  go_wp2_with fail
  refine (HRt.out _ (HL.out.below HB.out)).mono ?_
  rintro e w6 ⟨rfl, hb⟩
  replace HB := stp HB hb
  replace HX5 := hid (HX5.out.below hb)
  clear hb
  go_wp2_with fail
  refine (HFR.out _ (HL.out.below HB.out)).mono ?_
  rintro e w7 ⟨g7, rfl, hx7, hb, _⟩
  replace HB := stp HB hb
  replace HX5 := hid (HX5.out.below hb)
  have HX7 := hid hx7
  clear hb hx7
  have hnn : ((n : Int) != (n : Int)) = false := by simp
  go_wp2
  go_loopw [76] (fun i wr => ∃ k q : Nat, k ≤ n ∧ i = .int .i64 k ∧ wr = w7.drewN q) (fun i _ => n - (intOf i).toNat)
  case atStart => exact ⟨0, 0, Nat.zero_le _, rfl, rfl⟩
  case round =>
    obtain ⟨p, q, hp, rfl, rfl⟩ := hrel
    by_cases hlt : p < n
    · have i1 : (p : Int) < (n : Int) := by omega
      have e1 := HX5.out.cell p hlt
      have e2 := HX7.out.cell p hlt
      obtain ⟨x, hx⟩ : ∃ x, M.held (M.ways l p) = x := ⟨_, rfl⟩
      rw [hx] at e1 e2
      have hxx : ((x : Int) != (x : Int)) = false := by simp
      clear hx
      go_wp2
      go_quiet (fail)
      go_wp2
      go_roundw
      case rel => exact ⟨p + 1, _, by omega, by go_num, rfl⟩
      case measure => simp [intOf]; omega
    · obtain rfl : p = n := by omega
      have HBd := hid (bdrew HB.out q)
      have e7 := (HX7.out.drewN q).cell 0 h0
      simp only [HAA.out] at e7
      obtain ⟨Wd, hWd⟩ : ∃ Wd, w7.drewN q = Wd := ⟨_, rfl⟩
      rw [hWd] at HBd e7 ⊢
      clear hWd HB HX5 HX7
      have hAA : ((A : Int) == (A : Int)) = true := by simp
      have hBB : ((B : Int) == (B : Int)) = true := by simp
      have hCC : ((C : Int) == (C : Int)) = true := by simp
      go_wp2_with fail
      refine (HWR.out _ (HL.out.below HBd.out)).mono ?_
      rintro e w8 ⟨rfl, hb⟩
      replace HBd := stp HBd hb
      clear hb e7
      go_wp2_with fail
      refine (HER.out _ (HL.out.below HBd.out)).mono ?_
      rintro e w9 ⟨rfl, hb⟩
      replace HBd := stp HBd hb
      clear hb
      go_wp2
      go_ret
      exact ⟨rfl, HBd.out⟩
theorem htells_law (hAw : Aw10) (hRt : Rt10) (hC : CtOk) (hW : WkOk) (hE : EgOk) (hF : FrOk) (hC' : CtBad) (hW' : WkBad) (hE' : EgBad) (hF' : FrBad) (a : Option Addr) (cap : Nat) (l : List M.I) (ok : ∀ i ∈ l, M.okI i) (w : World) (hl : Lies w a l) :
    Calls Try.prog 3 #[.slice a l.length cap] w fun e w' => e = .returned (.bool true) ∧ Below w.heap.size w w' := by
  by_cases hn : l.length ≤ 300
  · cases hb : M.rightB l with
    | false => exact htells_bad hAw hRt hC' hW' hE' hF' a _ cap l rfl hn ok hb w hl
    | true =>
      have hr := M.right_of.1 hb
      have h0 := ((M.right_iff l).1 hr).1.1
      obtain ⟨b, o, rfl, hly⟩ := hl.ly (by omega)
      exact htells_good hAw hRt hC hW hE hF b o l.length cap l rfl hn ok hr w hly
  · exact htells_big hAw a _ cap (by omega) w

set_option maxHeartbeats 3200000 in
set_option maxRecDepth 1000000 in
theorem hprune_good (hAw : Aw10) (hRt : Rt10) (hP : PrOk10) (hC : CtOk) (hW : WkOk) (b o n cap : Nat) (l : List M.I) (hln : l.length = n) (hn : n ≤ 300) (ok : ∀ i ∈ l, M.okI i) (hr : M.right l) (w : World) (hl : Ly w b o l) :
    Calls Try.prog 4 #[.slice (some ⟨b, o, none⟩) n cap] w fun e w' => e = .returned (.bool true) ∧ Below w.heap.size w w' := by
  have hd : decide (300 < (n : Int)) = false := decide_eq_false (by omega)
  have HB := hid (Below.refl w.heap.size w)
  have HAw := hid hAw
  obtain ⟨_, hpr, hpo, hpl, _⟩ := M.prune_spec hr ok
  obtain ⟨hq1, hq2⟩ := M.prune_ways hr ok
  obtain ⟨p, hp⟩ : ∃ p, M.pruneL l = p := ⟨_, rfl⟩
  rw [hp] at hpr hpo hpl hq1 hq2
  obtain ⟨m, hm⟩ : ∃ m, p.length = m := ⟨_, rfl⟩
  have hmn : m ≤ n := by rw [← hm, ← hln]; exact hpl
  have HRt := hid (fun W (h : Ly W b o l) => hRt (some ⟨b, o, none⟩) n cap l true hln (by omega) ok (M.right_of.2 hr) W h.lies)
  have HP := hid (fun W (h : Ly W b o l) => hP b o n cap l hln (by omega) ok hr W h)
  dsimp only at HP
  rw [hp, hm] at HP
  have HC := hid (fun W (h : Ly W b o l) => hC b o n cap l hln (by omega) ok hr W h)
  have HCp := hid (fun b o c W (h : Ly W b o p) => hC b o m c p hm (by omega) hpo hpr W h)
  have HW := hid (fun W (h : Ly W b o l) => hW b o n cap l hln (by omega) ok hr W h)
  have HWp := hid (fun b o c W (h : Ly W b o p) => hW b o m c p hm (by omega) hpo hpr W h)
  dsimp only at HC HCp HW HWp
  have d1 : decide (M.held (M.ways p 0) ≤ M.held (M.ways l 0)) = true := decide_eq_true (M.held_mono hq1)
  have d2 : decide (M.held (M.work p 0) ≤ M.held (M.work l 0)) = true := decide_eq_true (M.held_mono hq2)
  obtain ⟨A, hA⟩ : ∃ A, M.held (M.ways l 0) = A := ⟨_, rfl⟩
  obtain ⟨B, hB⟩ : ∃ B, M.held (M.work l 0) = B := ⟨_, rfl⟩
  obtain ⟨C, hCC⟩ : ∃ C, M.held (M.ways p 0) = C := ⟨_, rfl⟩
  obtain ⟨D, hD⟩ : ∃ D, M.held (M.work p 0) = D := ⟨_, rfl⟩
  rw [hA] at HC d1
  rw [hB] at HW d2
  rw [hCC] at HCp d1
  rw [hD] at HWp d2
  have hp0 : 0 < p.length := ((M.right_iff p).1 hpr).1.1
  have HP0 := hid hp0
  have HL := hid hl
  clear hAw hRt hP hC hW hln ok hr hl hpr hpo hpl hq1 hq2 hp hm hA hB hCC hD hp0
  go_enter Try.func4, Try.ntmps4
  go_wp2_with fail
  refine (HAw.out _).mono ?_
  rintro e w1 ⟨rfl, hb⟩
  replace HB := stp HB hb
  clear hb
  go_wp2_with fail
  refine (HRt.out _ (HL.out.below HB.out)).mono ?_
  rintro e w2 ⟨rfl, hb⟩
  replace HB := stp HB hb
  clear hb
  go_wp2_with fail
  refine (HP.out _ (HL.out.below HB.out)).mono ?_
  rintro e w3 ⟨⟨a3, c3, rfl, hx3⟩, hb⟩
  obtain ⟨b3, o3, rfl, hy3⟩ := hx3.ly (by have := HP0.out; omega)
  replace HB := stp HB hb
  have HX := hid hy3
  clear hb hx3 hy3
  go_wp2_with fail
  refine (HC.out _ (HL.out.below HB.out)).mono ?_
  rintro e w4 ⟨rfl, hb⟩
  replace HB := stp HB hb
  replace HX := hid (HX.out.below hb)
  clear hb
  go_wp2_with fail
  refine (HCp.out _ _ _ _ HX.out).mono ?_
  rintro e w5 ⟨rfl, hb⟩
  replace HB := stp HB hb
  replace HX := hid (HX.out.below hb)
  clear hb
  go_wp2_with fail
  refine (HW.out _ (HL.out.below HB.out)).mono ?_
  rintro e w6 ⟨rfl, hb⟩
  replace HB := stp HB hb
  replace HX := hid (HX.out.below hb)
  clear hb
  go_wp2_with fail
  refine (HWp.out _ _ _ _ HX.out).mono ?_
  rintro e w7 ⟨rfl, hb⟩
  replace HB := stp HB hb
  clear hb
  go_wp2
  go_ret
  exact ⟨rfl, HB.out⟩
end Go.Proofs.Ytfmlefadifpocaa.B
namespace Go.Proofs.Ytfmlefadifpocaa.B
open Go.ChangeShapes Go.WideShapes Go.ChangeAt Go.RowKit
open Go.Sort hiding Below
set_option linter.unusedVariables false

set_option maxHeartbeats 1600000 in
set_option maxRecDepth 100000 in
theorem hprune_big (hAw : Aw10) (a : Option Addr) (n cap : Nat) (hn : 300 < n) (w : World) :
    Calls Try.prog 4 #[.slice a n cap] w fun e w' => e = .returned (.bool true) ∧ Below w.heap.size w w' := by
  have hd : decide (300 < (n : Int)) = true := decide_eq_true (by omega)
  have HB := hid (Below.refl w.heap.size w)
  have HAw := hid hAw
  clear hn hAw
  go_enter Try.func4, Try.ntmps4
  go_wp2_with fail
  refine (HAw.out _).mono ?_
  rintro e w1 ⟨rfl, hb⟩
  replace HB := stp HB hb
  clear hb
  go_wp2_with fail
  refine (HAw.out _).mono ?_
  rintro e w2 ⟨rfl, hb⟩
  replace HB := stp HB hb
  clear hb
  go_wp2
  go_ret
  exact ⟨rfl, HB.out⟩
set_option maxHeartbeats 1600000 in
set_option maxRecDepth 100000 in
theorem hprune_bad (hAw : Aw10) (hRt : Rt10) (a : Option Addr) (n cap : Nat) (l : List M.I) (hln : l.length = n) (hn : n ≤ 300) (ok : ∀ i ∈ l, M.okI i) (w : World) (hl : Lies w a l) (hbad : M.rightB l = false) :
    Calls Try.prog 4 #[.slice a n cap] w fun e w' => e = .returned (.bool true) ∧ Below w.heap.size w w' := by
  have hd : decide (300 < (n : Int)) = false := decide_eq_false (by omega)
  have HB := hid (Below.refl w.heap.size w)
  have HRt := hid (fun W (h : Lies W a l) => hRt a n cap l false hln (by omega) ok hbad W h)
  have HL := hid hl
  have HAw := hid hAw
  clear hl ok hbad hln hAw hRt
  go_enter Try.func4, Try.ntmps4
  go_wp2_with fail
  refine (HAw.out _).mono ?_
  rintro e w1 ⟨rfl, hb⟩
  replace HB := stp HB hb
  clear hb
  go_wp2_with fail
  refine (HRt.out _ (HL.out.below HB.out)).mono ?_
  rintro e w2 ⟨rfl, hb⟩
  replace HB := stp HB hb
  clear hb
  go_wp2_with fail
  refine (HAw.out _).mono ?_
  rintro e w3 ⟨rfl, hb⟩
  replace HB := stp HB hb
  clear hb
  go_wp2
  go_ret
  exact ⟨rfl, HB.out⟩
theorem hprune_law (hAw : Aw10) (hRt : Rt10) (hP : PrOk10) (hC : CtOk) (hW : WkOk) (a : Option Addr) (cap : Nat) (l : List M.I) (ok : ∀ i ∈ l, M.okI i) (w : World) (hl : Lies w a l) :
    Calls Try.prog 4 #[.slice a l.length cap] w fun e w' => e = .returned (.bool true) ∧ Below w.heap.size w w' := by
  by_cases hn : l.length ≤ 300
  · cases hb : M.rightB l with
    | false => exact hprune_bad hAw hRt a _ cap l rfl hn ok w hl hb
    | true =>
      have hr := M.right_of.1 hb
      have h0 := ((M.right_iff l).1 hr).1.1
      obtain ⟨b, o, rfl, hly⟩ := hl.ly (by omega)
      exact hprune_good hAw hRt hP hC hW b o l.length cap l rfl hn ok hr w hly
  · exact hprune_big hAw a _ cap (by omega) w

set_option maxHeartbeats 1600000 in
set_option maxRecDepth 100000 in
theorem heach_big (hAw : Aw10) (a : Option Addr) (n cap : Nat) (hn : 100 < n) (w : World) :
    Calls Try.prog 6 #[.slice a n cap] w fun e w' => e = .returned (.bool true) ∧ Below w.heap.size w w' := by
  have hd : decide (100 < (n : Int)) = true := decide_eq_true (by omega)
  have HB := hid (Below.refl w.heap.size w)
  have HAw := hid hAw
  clear hn hAw
  go_enter Try.func6, Try.ntmps6
  go_wp2_with fail
  refine (HAw.out _).mono ?_
  rintro e w1 ⟨rfl, hb⟩
  replace HB := stp HB hb
  clear hb
  go_wp2_with fail
  refine (HAw.out _).mono ?_
  rintro e w2 ⟨rfl, hb⟩
  replace HB := stp HB hb
  clear hb
  go_wp2
  go_ret
  exact ⟨rfl, HB.out⟩
set_option maxHeartbeats 1600000 in
set_option maxRecDepth 100000 in
theorem heach_bad (hAw : Aw10) (hRt : Rt10) (a : Option Addr) (n cap : Nat) (l : List M.I) (hln : l.length = n) (hn : n ≤ 100) (ok : ∀ i ∈ l, M.okI i) (w : World) (hl : Lies w a l) (hbad : M.rightB l = false) :
    Calls Try.prog 6 #[.slice a n cap] w fun e w' => e = .returned (.bool true) ∧ Below w.heap.size w w' := by
  have hd : decide (100 < (n : Int)) = false := decide_eq_false (by omega)
  have HB := hid (Below.refl w.heap.size w)
  have HRt := hid (fun W (h : Lies W a l) => hRt a n cap l false hln (by omega) ok hbad W h)
  have HL := hid hl
  have HAw := hid hAw
  clear hl ok hbad hln hAw hRt
  go_enter Try.func6, Try.ntmps6
  go_wp2_with fail
  refine (HAw.out _).mono ?_
  rintro e w1 ⟨rfl, hb⟩
  replace HB := stp HB hb
  clear hb
  go_wp2_with fail
  refine (HRt.out _ (HL.out.below HB.out)).mono ?_
  rintro e w2 ⟨rfl, hb⟩
  replace HB := stp HB hb
  clear hb
  go_wp2_with fail
  refine (HAw.out _).mono ?_
  rintro e w3 ⟨rfl, hb⟩
  replace HB := stp HB hb
  clear hb
  go_wp2
  go_ret
  exact ⟨rfl, HB.out⟩
set_option maxHeartbeats 3200000 in
set_option maxRecDepth 1000000 in
theorem heach_good (hAw : Aw10) (hRt : Rt10) (hC : CtOk) (hW : WkOk) (b o n cap : Nat) (l : List M.I) (hln : l.length = n) (hn : n ≤ 100) (ok : ∀ i ∈ l, M.okI i) (hr : M.right l) (w : World) (hl : Ly w b o l) :
    Calls Try.prog 6 #[.slice (some ⟨b, o, none⟩) n cap] w fun e w' => e = .returned (.bool true) ∧ Below w.heap.size w w' := by
  have hd : decide (100 < (n : Int)) = false := decide_eq_false (by omega)
  have h0 : 0 < n := by rw [← hln]; exact ((M.right_iff l).1 hr).1.1
  have i0 : (0 : Int) < (n : Int) := by omega
  have HB := hid (Below.refl w.heap.size w)
  have HAw := hid hAw
  have HC := hid (fun W (h : Ly W b o l) => hC b o n cap l hln (by omega) ok hr W h)
  have HW := hid (fun W (h : Ly W b o l) => hW b o n cap l hln (by omega) ok hr W h)
  dsimp only at HC HW
  have HRt := hid (fun W (h : Ly W b o l) => hRt (some ⟨b, o, none⟩) n cap l true hln (by omega) ok (M.right_of.2 hr) W h.lies)
  have HFR := hid (fun W (h : Ly W b o l) => rfrom_any b o n cap l hln (by omega) ok hr W h)
  have HEa := hid (fun (h300 : M.ways l 0 ≤ 300) W (h : Ly W b o l) => reach_any b o n cap l hln hn ok hr n 0 0 1 (by omega) (by omega) h0 (by omega) h300 W h)
  have HS := hid (show M.held (M.ways l 0) ≤ 300 → M.ways l 0 ≤ 300 ∧ M.held (M.ways l 0) = M.ways l 0 ∧ M.held (M.work l 0) = M.ek l 0 0 from fun h => by
    have h1 : M.ways l 0 ≤ 300 := by unfold M.held at h; omega
    have h2 := M.work_le hr ok l.length 0 (by omega) (by omega)
    have h3 : M.ways l 0 * (l.length - 0) ≤ 300 * 100 := Nat.mul_le_mul h1 (by omega)
    refine ⟨h1, M.held_small (by omega), ?_⟩
    unfold M.ek
    rw [Nat.mul_zero, Nat.zero_add, M.held_small (by omega)])
  obtain ⟨A, hA⟩ : ∃ A, M.held (M.ways l 0) = A := ⟨_, rfl⟩
  obtain ⟨B, hB⟩ : ∃ B, M.held (M.work l 0) = B := ⟨_, rfl⟩
  rw [hA] at HC HS
  rw [hB] at HW HS
  have HAA := hid hA
  have HL := hid hl
  clear hAw hRt hC hW hln ok hr hl hA hB
  go_enter Try.func6, Try.ntmps6
  go_wp2_with fail
  refine (HAw.out _).mono ?_
  rintro e w1 ⟨rfl, hb⟩
  replace HB := stp HB hb
  clear hb
  go_wp2_with fail
  refine (HRt.out _ (HL.out.below HB.out)).mono ?_
  rintro e w2 ⟨rfl, hb⟩
  replace HB := stp HB hb
  clear hb
  go_wp2_with fail
  refine (HC.out _ (HL.out.below HB.out)).mono ?_
  rintro e w3 ⟨rfl, hb⟩
  replace HB := stp HB hb
  clear hb
  go_wp2_with fail
  refine (HW.out _ (HL.out.below HB.out)).mono ?_
  rintro e w4 ⟨rfl, hb⟩
  replace HB := stp HB hb
  clear hb
  go_wp2_with fail
  refine (HFR.out _ (HL.out.below HB.out)).mono ?_
  rintro e w5 ⟨g5, rfl, hx5, hb, _⟩
  replace HB := stp HB hb
  have c5 := hx5.cell 0 h0
  simp only [HAA.out] at c5
  clear hb hx5
  by_cases h300 : A ≤ 300
  · have d1 : decide (300 < (A : Int)) = false := decide_eq_false (by omega)
    obtain ⟨e1, e2, e3⟩ := HS.out h300
    have HE2 := hid (HEa.out e1)
    rw [← e2, ← e3] at HE2
    have hAA : ((A : Int) == (A : Int)) = true := by simp
    have hBB : ((B : Int) == (B : Int)) = true := by simp
    clear e1 e2 e3 h300 HS HEa
    go_wp2_with fail
    refine (HE2.out _ (HL.out.below HB.out)).mono ?_
    rintro e w6 ⟨rfl, hb⟩
    replace HB := stp HB hb
    clear hb
    go_wp2
    go_ret
    exact ⟨rfl, HB.out⟩
  · have d1 : decide (300 < (A : Int)) = true := decide_eq_true (by omega)
    clear h300
    go_wp2
    go_ret
    exact ⟨rfl, HB.out⟩
theorem heach_law (hAw : Aw10) (hRt : Rt10) (hC : CtOk) (hW : WkOk) (a : Option Addr) (cap : Nat) (l : List M.I) (ok : ∀ i ∈ l, M.okI i) (w : World) (hl : Lies w a l) :
    Calls Try.prog 6 #[.slice a l.length cap] w fun e w' => e = .returned (.bool true) ∧ Below w.heap.size w w' := by
  by_cases hn : l.length ≤ 100
  · cases hb : M.rightB l with
    | false => exact heach_bad hAw hRt a _ cap l rfl hn ok w hl hb
    | true =>
      have hr := M.right_of.1 hb
      have h0 := ((M.right_iff l).1 hr).1.1
      obtain ⟨b, o, rfl, hly⟩ := hl.ly (by omega)
      exact heach_good hAw hRt hC hW b o l.length cap l rfl hn ok hr w hly
  · exact heach_big hAw a _ cap (by omega) w
end Go.Proofs.Ytfmlefadifpocaa.B
namespace Go.Proofs.Ytfmlefadifpocaa.B
open Go.ChangeShapes Go.WideShapes Go.ChangeAt Go.RowKit
open Go.Sort hiding Below
set_option linter.unusedVariables false

set_option maxHeartbeats 3200000 in
set_option maxRecDepth 1000000 in
theorem hrow_law (hAw : Aw10) (hC : CtOk) (x : Int) (hx : (Lit.int .i64 x).wf = true) (w : World) :
    Calls Try.prog 5 #[.int .i64 x] w fun e w' => e = .returned (.bool true) ∧ Below w.heap.size w w' := by
  have HAw := hid hAw
  have HC := hid hC
  clear hAw hC
  go_enter Try.func5, Try.ntmps5
  go_wp2
  obtain ⟨N, hN80, hN⟩ : ∃ N : Nat, N < 80 ∧ wrap64 ((IntKind.u64.wrap x).tmod 80) = N := by
    have h1 : IntKind.u64.wrap x = x % 18446744073709551616 := IntKind.wrap_u64 x
    refine ⟨(x % 18446744073709551616 % 80).toNat, by omega, ?_⟩
    rw [h1, Int.tmod_eq_emod_of_nonneg (by omega), ← Go.IntWalk.i64_left, Go.IntWalk.i64_in _ (by omega)]
    omega
  rw [hN]
  clear hN
  have HI := hid (show Own w w.heap.size none (2 * 0) 0 (M.rowP 0) ∧ Below w.heap.size w w from ⟨Own.nil _ _, Below.refl _ _⟩)
  go_loopw [3, 12] (fun v i wr => ∃ (k cc : Nat) (a : Option Addr), k ≤ N ∧ v = .slice a (2 * k) cc ∧ i = .int .i64 k ∧ Hid (Own wr w.heap.size a (2 * k) cc (M.rowP k) ∧ Below w.heap.size w wr)) (fun _ i _ => N - (intOf i).toNat)
  case atStart => exact ⟨0, 0, none, Nat.zero_le _, rfl, rfl, HI.out⟩
  case round =>
    clear HI
    obtain ⟨k, cc, a, hk, rfl, rfl, HR⟩ := hrel
    by_cases hlt : k < N
    · have i1 : (k : Int) < (N : Int) := by omega
      go_wp2_with (at_builtin; refine wpList_append_row (by rfl) _ _ rfl w.heap.size (2 * k) 2 cc 2 a (some ⟨wr.heap.size, 0, none⟩) (M.rowP k) [(21, 0, 1, 5), (0, 0, 0, 0)] rfl (HR.out.1.below (al _ _)) rfl (lies_lit wr [(21, 0, 1, 5), (0, 0, 0, 0)] 2 rfl (by unfold maxLen; omega)) rfl (by omega) (stp (hid HR.out.2) (al _ _)).out.size ?_)
      intro a2 cap2 w2 hown hb
      have HZ := hid (show Own w2 w.heap.size a2 (2 * (k + 1)) cap2 (M.rowP (k + 1)) ∧ Below w.heap.size w w2 from ⟨by rw [M.rowP, show 2 * (k + 1) = 2 * k + 2 by omega]; exact hown, (stp (hid HR.out.2) (al _ _)).out.trans hb⟩)
      clear hown hb HR
      go_wp2
      go_roundw
      case rel => exact ⟨k + 1, cap2, a2, by omega, by first | rfl | (rw [show 2 * (k + 1) = 2 * k + 2 by omega]), by go_num, HZ.out⟩
      case measure => simp [intOf]; omega
    · obtain rfl : k = N := by omega
      go_wp2_with (at_builtin; refine wpList_append_row (by rfl) _ _ rfl w.heap.size (2 * k) 1 cc 1 a (some ⟨wr.heap.size, 0, none⟩) (M.rowP k) [(6, 0, 0, 0)] rfl (HR.out.1.below (al _ _)) rfl (lies_lit wr [(6, 0, 0, 0)] 1 rfl (by unfold maxLen; omega)) rfl (by omega) (stp (hid HR.out.2) (al _ _)).out.size ?_)
      intro a2 cap2 w2 hown hb
      have HO := hid (show Lies w2 a2 (M.rowL k) ∧ Below w.heap.size w w2 from ⟨hown.lies, (stp (hid HR.out.2) (al _ _)).out.trans hb⟩)
      clear hown hb HR
      obtain ⟨b2, o2, rfl, hly⟩ := HO.out.1.ly (by rw [M.rowL_len]; omega)
      have HCk := hid (HC.out b2 o2 (2 * k + 1) cap2 (M.rowL k) (M.rowL_len k) (by omega) (M.rowL_ok k) (M.rowL_right (by omega)) w2 hly)
      dsimp only at HCk
      rw [M.rowL_held (by omega)] at HCk
      obtain ⟨A, hA⟩ : ∃ A, 2 ^ min k 50 = A := ⟨_, rfl⟩
      rw [hA] at HCk
      clear hly
      go_wp2_with fail
      refine HCk.out.mono ?_
      rintro e w3 ⟨rfl, hb⟩
      have HB := stp (hid HO.out.2) hb
      clear hb HO HCk
      have hAA : ((A : Int) == (A : Int)) = true := by simp
      rcases Nat.lt_trichotomy k 50 with hk5 | hk5 | hk5
      · have d1 : (k : Int) < 50 := by omega
        have d2 : ¬ (50 : Int) < (k : Int) := by omega
        rw [Nat.min_eq_left (by omega)] at hA
        have hle : 2 ^ k ≤ 2 ^ 50 := Nat.pow_le_pow_right (by omega) (by omega)
        have z1 : IntKind.u64.wrap ((2 : Int) ^ k) = (A : Int) := by
          have e : ((2 : Int) ^ k) = (A : Int) := by rw [← hA]; simp
          rw [e]
          exact Go.IntWalk.u64_in _ (by omega)
        clear hA hle hk5
        go_wp2_with fail
        refine (HAw.out _).mono ?_
        rintro e w4 ⟨rfl, hb⟩
        replace HB := stp HB hb
        clear hb
        go_wp2
        go_ret
        exact ⟨rfl, HB.out⟩
      · subst hk5
        have hA' : A = 1125899906842624 := by rw [← hA]; decide
        subst hA'
        clear hA
        go_wp2_with fail
        refine (HAw.out _).mono ?_
        rintro e w4 ⟨rfl, hb⟩
        replace HB := stp HB hb
        clear hb
        go_wp2
        go_ret
        exact ⟨rfl, HB.out⟩
      · have d1 : (50 : Int) < (k : Int) := by omega
        have d2 : ¬ (k : Int) < 50 := by omega
        have d3 : 50 ≤ k := by omega
        rw [Nat.min_eq_right (by omega)] at hA
        have hA' : A = 1125899906842624 := by rw [← hA]
        subst hA'
        clear hA hk5
        go_wp2_with fail
        all_goals try (exfalso; omega)
        refine (HAw.out _).mono ?_
        rintro e w4 ⟨rfl, hb⟩
        replace HB := stp HB hb
        clear hb
        go_wp2
        go_ret
        exact ⟨rfl, HB.out⟩
end Go.Proofs.Ytfmlefadifpocaa.B
