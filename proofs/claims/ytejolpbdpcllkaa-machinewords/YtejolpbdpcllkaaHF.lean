/-
  A filter ends with the document's answer, at the document's places: the walk of the statement MachineRuns.
-/
import Derived.Test.YtejolpbdpcllkaaHD
import Derived.Test.YtejolpbdpcllkaaH8
namespace Go.Proofs.Ytejolpbdpcllkaa.B
open Go.ChangeShapes Go.WideShapes Go.ChangeAt Go.RowKit
open Go.Sort hiding Below
set_option linter.unusedVariables false

set_option maxHeartbeats 3200000 in
set_option maxRecDepth 1000000 in
theorem runs_long (a : Option Addr) (n cap : Nat) (r : List Int) (hn : 300 < n) (w : World) :
    Calls Try.prog 4 #[.slice a n cap, .agg (RB.enc r)] w fun e w' => e = .returned (.bool true) ∧ Below w.heap.size w w' := by
  have hd : decide (300 < (n : Int)) = true := decide_eq_true (by omega)
  have HB := hid (al w (.cells (RB.enc r) 25))
  go_enter Try.func4, Try.ntmps4
  go_wp2_with fail
  refine (awake_any _).mono ?_
  rintro e w1 ⟨rfl, hb⟩
  replace HB := stp HB hb
  clear hb
  go_wp2_with fail
  refine (awake_any _).mono ?_
  rintro e w2 ⟨rfl, hb⟩
  replace HB := stp HB hb
  clear hb
  go_wp2
  go_ret
  exact ⟨rfl, HB.out⟩

set_option maxHeartbeats 3200000 in
set_option maxRecDepth 1000000 in
theorem runs_bad (a : Option Addr) (n cap : Nat) (l : List M.I) (r : List Int) (hln : l.length = n) (hn : n ≤ 300) (ok : ∀ i ∈ l, M.okI i) (hk : R.okR r) (w : World) (hl : Lies w a l) (hb : M.rightB l = false) :
    Calls Try.prog 4 #[.slice a n cap, .agg (RB.enc r)] w fun e w' => e = .returned (.bool true) ∧ Below w.heap.size w w' := by
  have hd : decide (300 < (n : Int)) = false := decide_eq_false (by omega)
  have hX := RB.lcf_eq
  have HB := hid (al w (.cells (RB.enc r) 25))
  have HL := hid (hl.below HB.out)
  have hRc := RB.Rec.new w r hk.1
  have hsz16 := RB.enc_size hk.1
  have HC1 := hid (fun W (h : Lies W a l) => mrun_bad a n cap l r hln (by omega) ok W h hb)
  have HC2 := hid (fun W (h : Lies W a l) => msteps_bad a n cap l r hln (by omega) ok hk W h hb)
  have HC3 := hid (fun W (h : Lies W a l) => mtrace_bad a n cap l r hln (by omega) ok W h hb)
  have HC4 := hid (fun W (h : Lies W a l) => rright_any a n cap l hln (by omega) ok W h false hb)
  clear ok hl hb hln
  go_enter Try.func4, Try.ntmps4
  go_wp2_with fail
  refine (awake_any _).mono ?_
  rintro e w1 ⟨rfl, hb⟩
  replace HB := stp HB hb
  replace HL := hid (HL.out.below hb)
  replace hRc := hRc.below hb hRc.lt
  have hl16 := hRc.load
  clear hb
  go_wp2_with fail
  refine (HC1.out _ HL.out).mono ?_
  rintro e w2 ⟨rfl, hb⟩
  replace HB := stp HB hb
  replace HL := hid (HL.out.below hb)
  replace hRc := hRc.below hb hRc.lt
  replace hl16 := hRc.load
  clear hb
  go_wp2_with fail
  refine (HC2.out _ HL.out).mono ?_
  rintro e w3 ⟨rfl, hb⟩
  replace HB := stp HB hb
  replace HL := hid (HL.out.below hb)
  replace hRc := hRc.below hb hRc.lt
  replace hl16 := hRc.load
  clear hb
  go_wp2_with fail
  refine (HC3.out _ HL.out).mono ?_
  rintro e w4 ⟨rfl, hb⟩
  replace HB := stp HB hb
  replace HL := hid (HL.out.below hb)
  clear hb hl16 hRc
  go_wp2_with fail
  refine (HC4.out _ HL.out).mono ?_
  rintro e w5 ⟨rfl, hb⟩
  replace HB := stp HB hb
  clear hb HL
  go_wp2
  go_ret
  exact ⟨rfl, HB.out⟩

theorem nx_cell {w : World} {g : Nat} {js : List Nat} (h : Nx w (some ⟨g, 0, none⟩) js) (k : Nat) (hk : k < js.length) : w.cell? ⟨g, k, none⟩ = some (.int .i64 (js[k] : Int)) := by
  rcases h with h | ⟨g', e, _, h⟩
  · rw [h] at hk; simp at hk
  · injection e with e
    injection e with e
    subst e
    exact h k hk

set_option maxHeartbeats 3200000 in
set_option maxRecDepth 1000000 in
theorem runs_good (b o n cap : Nat) (l : List M.I) (r : List Int) (hln : l.length = n) (hn : n ≤ 300) (ok : ∀ i ∈ l, M.okI i) (hk : R.okR r) (w : World) (hl : Ly w b o l) (hr : M.right l) :
    Calls Try.prog 4 #[.slice (some ⟨b, o, none⟩) n cap, .agg (RB.enc r)] w fun e w' => e = .returned (.bool true) ∧ Below w.heap.size w w' := by
  have hd : decide (300 < (n : Int)) = false := decide_eq_false (by omega)
  have hX := RB.lcf_eq
  have HB := hid (al w (.cells (RB.enc r) 25))
  have HL := hid (hl.below HB.out)
  have hRc := RB.Rec.new w r hk.1
  have hsz16 := RB.enc_size hk.1
  have HC1 := hid (fun W (h : Ly W b o l) => mrun_any b o n cap l r hln (by omega) ok hk W h hr)
  have HC2 := hid (fun W (h : Ly W b o l) => msteps_any b o n cap l r hln (by omega) ok hk W h hr)
  have HC3 := hid (fun W (h : Ly W b o l) => mtrace_any b o n cap l r hln (by omega) ok hk W h hr)
  have HC4 := hid (fun W (h : Lies W (some ⟨b, o, none⟩) l) => rright_any (some ⟨b, o, none⟩) n cap l hln (by omega) ok W h true (M.right_of.2 hr))
  have HC5 := hid (fun W (h : Ly W b o l) => rrun_any b o n cap l r hln (by omega) ok hk W h hr)
  obtain ⟨_, he2, he3, _, he5⟩ := M.run_ends hr ok r
  rw [hln] at he5
  obtain ⟨v, hv⟩ : ∃ v, (M.run l r).1.an = v := ⟨_, rfl⟩
  obtain ⟨js, hjs⟩ : ∃ js, (M.run l r).2 = js := ⟨_, rfl⟩
  rw [hjs] at he2 he3 he5 HC2 HC3 HC5
  rw [hv] at HC1 HC5
  obtain ⟨m, hm⟩ : ∃ m, js.length = m := ⟨_, rfl⟩
  have hpos : 0 < m := by obtain ⟨tl, e⟩ := he2; rw [← hm, e]; simp
  have HJ := hid (show (∃ tl, js = 0 :: tl) ∧ js.Pairwise (· < ·) ∧ js.length = m from ⟨he2, he3, hm⟩)
  rw [hm] at HC2 HC3 HC5 he5
  clear ok hl hr hln hjs hv he2 he3 hm
  go_enter Try.func4, Try.ntmps4
  go_wp2_with fail
  refine (awake_any _).mono ?_
  rintro e w1 ⟨rfl, hb⟩
  replace HB := stp HB hb
  replace HL := hid (HL.out.below hb)
  replace hRc := hRc.below hb hRc.lt
  have hl16 := hRc.load
  clear hb
  go_wp2_with fail
  refine (HC1.out _ HL.out).mono ?_
  rintro e w2 ⟨rfl, hb⟩
  replace HB := stp HB hb
  replace HL := hid (HL.out.below hb)
  replace hRc := hRc.below hb hRc.lt
  replace hl16 := hRc.load
  clear hb
  go_wp2_with fail
  refine (HC2.out _ HL.out).mono ?_
  rintro e w3 ⟨rfl, hb⟩
  replace HB := stp HB hb
  replace HL := hid (HL.out.below hb)
  replace hRc := hRc.below hb hRc.lt
  replace hl16 := hRc.load
  clear hb
  go_wp2_with fail
  refine (HC3.out _ HL.out).mono ?_
  rintro e w4 ⟨g, c, rfl, hx, hb⟩
  replace HB := stp HB hb
  replace HL := hid (HL.out.below hb)
  replace hRc := hRc.below hb hRc.lt
  replace hl16 := hRc.load
  have HX := hid hx
  clear hb hx
  go_wp2_with fail
  refine (HC4.out _ HL.out.lies).mono ?_
  rintro e w5 ⟨rfl, hb⟩
  replace HB := stp HB hb
  replace HL := hid (HL.out.below hb)
  replace hRc := hRc.below hb hRc.lt
  replace hl16 := hRc.load
  replace HX := hid (HX.out.below hb)
  clear hb
  go_wp2_with fail
  refine (HC5.out _ HL.out).mono ?_
  rintro e w6 ⟨g2, c2, rfl, hx, hb⟩
  replace HB := stp HB hb
  replace HX := hid (HX.out.below hb)
  have HY := hid hx
  clear hb hl16 hRc HL hx HC1 HC2 HC3 HC4 HC5
  have c1 : decide ((n : Int) < (m : Int)) = false := decide_eq_false (by omega)
  go_wp2
  go_loopw [107] (fun i wr => ∃ k q : Nat, k ≤ m ∧ i = .int .i64 k ∧ wr = w6.drewN q) (fun i _ => m - (intOf i).toNat)
  case atStart => exact ⟨0, 0, Nat.zero_le _, rfl, rfl⟩
  case round =>
    obtain ⟨k, q, hk, rfl, rfl⟩ := hrel
    by_cases hlt : k < m
    · have i1 : (k : Int) < (m : Int) := by omega
      have hkl : k < js.length := by rw [HJ.out.2.2]; exact hlt
      have e1 := nx_cell HX.out k hkl
      have e2 := nx_cell HY.out k hkl
      obtain ⟨x, hx⟩ : ∃ x, js[k] = x := ⟨_, rfl⟩
      rw [hx] at e1 e2
      by_cases hk0 : k = 0
      · subst hk0
        clear hx hkl
        go_wp2
        go_quiet (fail)
        go_wp2
        go_roundw
        case rel => exact ⟨0 + 1, _, by omega, by go_num, rfl⟩
        case measure => simp [intOf]; omega
      · obtain ⟨j, rfl⟩ : ∃ j, k = j + 1 := ⟨k - 1, by omega⟩
        have e3 := nx_cell HX.out j (by omega)
        obtain ⟨y, hy⟩ : ∃ y, js[j]'(by omega) = y := ⟨_, rfl⟩
        rw [hy] at e3
        have hlt2 : y < x := by
          rw [← hx, ← hy]
          exact (List.pairwise_iff_getElem.1 HJ.out.2.1) j (j + 1) (by omega) hkl (by omega)
        have d1 : decide ((0 : Int) < (j : Int) + 1) = true := decide_eq_true (by omega)
        have d2 : decide ((x : Int) ≤ (y : Int)) = false := decide_eq_false (by omega)
        have hw1 : IntKind.i64.wrap ((j : Int) + 1 - 1) = (j : Int) := by rw [IntKind.wrap_i64]; omega
        have i2 : (j : Int) < (m : Int) := by omega
        clear hx hy hkl hk0
        go_wp2
        go_quiet (fail)
        go_wp2
        go_roundw
        case rel => exact ⟨j + 1 + 1, _, by omega, by go_num, rfl⟩
        case measure => simp [intOf]; omega
    · obtain rfl : k = m := by omega
      have e1 := nx_cell HX.out 0 (by rw [HJ.out.2.2]; exact hpos)
      have h0 : js[0]'(by rw [HJ.out.2.2]; exact hpos) = 0 := by
        obtain ⟨tl, e⟩ := HJ.out.1
        subst e
        rfl
      rw [h0] at e1
      have d1 : decide ((0 : Int) < (k : Int)) = true := decide_eq_true (by omega)
      clear h0
      go_wp2
      go_ret
      exact ⟨rfl, bdrew HB.out _⟩
theorem runs_law (a : Option Addr) (cap : Nat) (l : List M.I) (ok : ∀ i ∈ l, M.okI i) (r : List Int) (hr : R.okR r) (w : World) (hl : Lies w a l) :
    Calls Try.prog 4 #[.slice a l.length cap, .agg (RB.enc r)] w fun e w' => e = .returned (.bool true) ∧ Below w.heap.size w w' := by
  by_cases hn : l.length ≤ 300
  · cases hb : M.rightB l with
    | false => exact runs_bad a l.length cap l r rfl hn ok hr w hl hb
    | true =>
      have hrt := M.right_of.1 hb
      have h0 := ((M.right_iff l).1 hrt).1.1
      obtain ⟨b, o, rfl, hly⟩ := hl.ly h0
      exact runs_good b o l.length cap l r rfl hn ok hr w hly hrt
  · exact runs_long a l.length cap r (by omega) w
end Go.Proofs.Ytejolpbdpcllkaa.B
