/-
  No record makes a filter do more instructions than its longest way has: the walk of the statement GraphLong, over what its callees answer.
-/
import Derived.Test.YthfneidbaiebhaaG5
import Derived.Test.YthfneidbaiebhaaHC
namespace Go.Proofs.Ythfneidbaiebhaa.B
open Go.ChangeShapes Go.WideShapes Go.ChangeAt Go.RowKit
open Go.Sort hiding Below
set_option linter.unusedVariables false

/-- what a call of no arguments, or of a program, answers wherever -/
def Awake (w : World) : Prop := Calls Try.prog 8 #[] w fun e w' => e = .returned (.bool true) ∧ Below w.heap.size w w'

set_option maxHeartbeats 3200000 in
set_option maxRecDepth 1000000 in
theorem long_good (b o n cap : Nat) (l : List M.I) (r : List Int) (hln : l.length = n) (hn : n ≤ 200) (ok : ∀ i ∈ l, M.okI i) (hk : R.okR r) (w : World) (hl : Ly w b o l) (hr : M.right l)
    (hAw : ∀ W, Awake W)
    (hRt : ∀ W, Ly W b o l → Calls Try.prog 16 #[.slice (some ⟨b, o, none⟩) n cap] W fun e w' => e = .returned (.bool true) ∧ Below W.heap.size W w')
    (hLg : ∀ W, Ly W b o l → Calls Try.prog 15 #[.slice (some ⟨b, o, none⟩) n cap] W fun e w' => e = .returned (.tuple #[.int .i64 ((M.far l 0 : Nat) : Int), .int .i64 0]) ∧ Below W.heap.size W w')
    (hRe : ∀ W, Ly W b o l → Calls Try.prog 13 #[.slice (some ⟨b, o, none⟩) n cap] W fun e w' => ∃ g c, e = .returned (.slice (some ⟨g, 0, none⟩) n c) ∧ Row w' g n (fun j => .bool (M.rch l j)) ∧ Below W.heap.size W w') :
    Calls Try.prog 6 #[.slice (some ⟨b, o, none⟩) n cap, .agg (RB.enc r)] w fun e w' => e = .returned (.bool true) ∧ Below w.heap.size w w' := by
  have hd : decide (200 < (n : Int)) = false := decide_eq_false (by omega)
  have hX := RB.lcf_eq
  have HB := hid (al w (.cells (RB.enc r) 46))
  have HL := hid (hl.below HB.out)
  have hRc := RB.Rec.new w r hk.1
  have hsz16 := RB.enc_size hk.1
  have HSt := hid (fun W (h : Ly W b o l) => msteps_any b o n cap l r hln (by omega) ok hk W h hr)
  obtain ⟨s, hs⟩ : ∃ s, (M.run l r).2.length = s := ⟨_, rfl⟩
  obtain ⟨v, hv⟩ : ∃ v, M.far l 0 = v := ⟨_, rfl⟩
  have h1 : s ≤ v := by rw [← hs, ← hv]; exact M.run_far hr ok r
  have h2 : v ≤ M.rchN l n := by rw [← hv, ← hln]; exact M.far_le hr ok
  have h3 : M.rchN l n ≤ n := M.rchN_le l n
  rw [hs] at HSt
  rw [hv] at hLg
  have HAw := hid hAw
  have HRt := hid hRt
  have HLg := hid hLg
  have HRe := hid hRe
  clear hAw hRt hLg hRe ok hl hr hs hv hln
  go_enter Try.func6, Try.ntmps6
  go_wp2_with fail
  refine (HAw.out _).mono ?_
  rintro e w1 ⟨rfl, hb⟩
  replace HB := stp HB hb
  replace HL := hid (HL.out.below hb)
  replace hRc := hRc.below hb hRc.lt
  clear hb
  go_wp2_with fail
  refine (HRt.out _ HL.out).mono ?_
  rintro e w2 ⟨rfl, hb⟩
  replace HB := stp HB hb
  replace HL := hid (HL.out.below hb)
  replace hRc := hRc.below hb hRc.lt
  clear hb
  go_wp2_with fail
  refine (HLg.out _ HL.out).mono ?_
  rintro e w3 ⟨rfl, hb⟩
  replace HB := stp HB hb
  replace HL := hid (HL.out.below hb)
  replace hRc := hRc.below hb hRc.lt
  have hl16 := hRc.load
  clear hb
  go_wp2_with fail
  refine (HSt.out _ HL.out).mono ?_
  rintro e w4 ⟨rfl, hb⟩
  replace HB := stp HB hb
  replace HL := hid (HL.out.below hb)
  clear hb hl16 hRc
  go_wp2_with fail
  refine (HRe.out _ HL.out).mono ?_
  rintro e w5 ⟨g, c, rfl, hR, hb⟩
  replace HB := stp HB hb
  have HR := hid hR
  clear hb hR HL HAw HRt HLg HRe HSt
  go_wp2
  go_loopw [10, 41] (fun cv i wr => ∃ k : Nat, k ≤ n ∧ i = .int .i64 k ∧ cv = .int .i64 ((M.rchN l k : Nat) : Int) ∧ Hid (Row wr g n (fun j => .bool (M.rch l j)) ∧ Below w.heap.size w wr)) (fun _ i _ => n - (intOf i).toNat)
  case atStart => exact ⟨0, Nat.zero_le _, rfl, rfl, HR.out, HB.out⟩
  case round =>
    obtain ⟨k, hk, rfl, rfl, HQ⟩ := hrel
    clear HR HB
    by_cases hlt : k < n
    · have i1 : (k : Int) < (n : Int) := by omega
      have cr := HQ.out.1.cell k hlt
      have hs := M.rchN_succ l k
      have hle := M.rchN_le l k
      obtain ⟨x, hx⟩ : ∃ x, M.rchN l k = x := ⟨_, rfl⟩
      rw [hx] at hs hle ⊢
      cases hc : M.rch l k with
      | true =>
        simp only [hc] at cr hs
        have HF := hid (show M.rchN l (k + 1) = x + 1 by rw [hs]; simp)
        clear hs hc hx
        go_wp2
        go_roundw
        case rel => exact ⟨k + 1, by omega, by go_num, by rw [HF.out]; go_num, HQ.out⟩
        case measure => simp [intOf]; omega
      | false =>
        simp only [hc] at cr hs
        have HF := hid (show M.rchN l (k + 1) = x by rw [hs]; simp)
        clear hs hc hx
        go_wp2
        go_roundw
        case rel => exact ⟨k + 1, by omega, by go_num, by rw [HF.out], HQ.out⟩
        case measure => simp [intOf]; omega
    · obtain rfl : k = n := by omega
      obtain ⟨x, hx⟩ : ∃ x, M.rchN l k = x := ⟨_, rfl⟩
      rw [hx] at h2 h3 ⊢
      have d1 : decide (s ≤ v) = true := decide_eq_true h1
      have d2 : decide (v ≤ x) = true := decide_eq_true h2
      have d3 : decide (x ≤ k) = true := decide_eq_true h3
      clear hx
      go_wp2
      go_ret
      exact ⟨rfl, HQ.out.2⟩
end Go.Proofs.Ythfneidbaiebhaa.B
