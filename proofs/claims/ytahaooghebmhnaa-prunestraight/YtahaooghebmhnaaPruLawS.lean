/-
  The walk of the statement PruneSame, over what the program's own functions answer.
-/
import Derived.Test.YtahaooghebmhnaaPruLawT
import Derived.Test.YtahaooghebmhnaaHC
namespace Go.Proofs.Ytahaooghebmhnaa.B
open Go.ChangeShapes Go.WideShapes Go.ChangeAt Go.RowKit
open Go.Sort hiding Below
set_option linter.unusedVariables false

theorem Lies.ly0 {w : World} {a : Option Addr} {l : List M.I} (h : Lies w a l) (hr : M.right l) : ∃ b o, a = some ⟨b, o, none⟩ ∧ Ly w b o l :=
  h.ly (by have := ((M.right_iff l).1 hr).1.1; omega)

set_option maxHeartbeats 1600000 in
set_option maxRecDepth 100000 in
theorem psame_big (hAw : Aw9) (a : Option Addr) (n cap : Nat) (r : List Int) (hn : 400 < n) (w : World) :
    Calls Try.prog 4 #[.slice a n cap, .agg (RB.enc r)] w fun e w' => e = .returned (.bool true) ∧ Below w.heap.size w w' := by
  have hd : decide (400 < (n : Int)) = true := decide_eq_true (by omega)
  have hX := RB.lcf_eq
  have HB := hid (al w (.cells (RB.enc r) 36))
  have HAw := hid hAw
  clear hn hAw
  go_enter Try.func4, Try.ntmps4
  go_wp2_with fail
  refine (HAw.out _).mono ?_
  rintro e w1 ⟨rfl, hb⟩
  replace HB := stp HB hb
  clear hb
  go_wp2_with fail
  refine (HAw.out _).mono ?_
  rintro e w2 ⟨rfl, hb⟩
  replace HB := stp HB hb
  clear hb
  go_wp2
  go_ret
  exact ⟨rfl, HB.out⟩
set_option maxHeartbeats 1600000 in
set_option maxRecDepth 100000 in
theorem psame_bad (hAw : Aw9) (a : Option Addr) (n cap : Nat) (r : List Int) (l : List M.I) (hln : l.length = n) (hn : n ≤ 400) (ok : ∀ i ∈ l, M.okI i) (w : World) (hl : Lies w a l) (hbad : M.rightB l = false) :
    Calls Try.prog 4 #[.slice a n cap, .agg (RB.enc r)] w fun e w' => e = .returned (.bool true) ∧ Below w.heap.size w w' := by
  have hd : decide (400 < (n : Int)) = false := decide_eq_false (by omega)
  have hX := RB.lcf_eq
  have HB := hid (al w (.cells (RB.enc r) 36))
  have HRt := hid (fun W (h : Lies W a l) => rright9 a n cap l hln (by omega) ok W h false hbad)
  have HL := hid hl
  have HAw := hid hAw
  clear hl ok hbad hln hAw
  go_enter Try.func4, Try.ntmps4
  go_wp2_with fail
  refine (HAw.out _).mono ?_
  rintro e w1 ⟨rfl, hb⟩
  replace HB := stp HB hb
  clear hb
  go_wp2_with fail
  refine (HRt.out _ (HL.out.below HB.out)).mono ?_
  rintro e w2 ⟨rfl, hb⟩
  replace HB := stp HB hb
  clear hb
  go_wp2_with fail
  refine (HAw.out _).mono ?_
  rintro e w3 ⟨rfl, hb⟩
  replace HB := stp HB hb
  clear hb
  go_wp2
  go_ret
  exact ⟨rfl, HB.out⟩

set_option maxHeartbeats 3200000 in
set_option maxRecDepth 1000000 in
theorem psame_good (hAw : Aw9) (hPr : PrOk) (b o n cap : Nat) (r : List Int) (hkr : R.okR r) (l : List M.I) (hln : l.length = n) (hn : n ≤ 400) (ok : ∀ i ∈ l, M.okI i) (hr : M.right l) (w : World) (hl : Ly w b o l) :
    Calls Try.prog 4 #[.slice (some ⟨b, o, none⟩) n cap, .agg (RB.enc r)] w fun e w' => e = .returned (.bool true) ∧ Below w.heap.size w w' := by
  have hd : decide (400 < (n : Int)) = false := decide_eq_false (by omega)
  have hX := RB.lcf_eq
  have HB := hid (al w (.cells (RB.enc r) 36))
  have HL := hid (hl.below HB.out)
  have hRc := RB.Rec.new w r hkr.1
  have hsz16 := RB.enc_size hkr.1
  obtain ⟨hfix, hpr, hpo, hpl, hrun⟩ := M.prune_spec hr ok
  have hrch := M.fix_rch hpr hpo hfix
  have hpp := M.prune_fix hfix
  have hR := hrun r
  obtain ⟨p, hp⟩ : ∃ p, M.pruneL l = p := ⟨_, rfl⟩
  rw [hp] at hfix hpr hpo hpl hR hrch hpp
  obtain ⟨m, hm⟩ : ∃ m, p.length = m := ⟨_, rfl⟩
  have hmn : m ≤ n := by rw [← hm, ← hln]; exact hpl
  have HP1 := hid (fun W (h : Ly W b o l) => hPr b o n cap l hln (by omega) ok hr W h)
  rw [hp, hm] at HP1
  have HP2 := hid (fun b o c W (h : Ly W b o p) => hPr b o m c p hm (by omega) hpo hpr W h)
  rw [hpp, hm] at HP2
  have HRt := hid (fun W (h : Ly W b o l) => rright9 (some ⟨b, o, none⟩) n cap l hln (by omega) ok W h.lies true (M.right_of.2 hr))
  have HVr := hid (fun a c W (h : Lies W a p) => right_any a m c p hm (by omega) hpo W h true (M.right_of.2 hpr))
  have HRl := hid (fun W (h : Ly W b o l) => mrun_any b o n cap l r hln (by omega) ok hkr W h hr)
  have HRp := hid (fun b o c W (h : Ly W b o p) => mrun_any b o m c p r hm (by omega) hpo hkr W h hpr)
  rw [← hR.1] at HRl
  obtain ⟨v, hv⟩ : ∃ v, (M.run p r).1.an = v := ⟨_, rfl⟩
  rw [hv] at HRl HRp
  have HRe := hid (fun b o c W (h : Ly W b o p) => gReached b o m c p hm (by omega) hpo hpr W h)
  have HSa := hid (fun a1 a2 c1 c2 (W : World) h1 h2 => rsame_len a1 a2 p p m m c1 c2 W hm hm h1 h2 (by omega) (by omega) true (decide_eq_true rfl))
  have hgt : decide (n < m) = false := decide_eq_false (by omega)
  have HPp := hid (And.intro hpr (And.intro hm hrch))
  have HAw := hid hAw
  clear hAw hPr hln ok hr hl hfix hpr hpo hpl hR hrch hpp hrun hp hm hv
  go_enter Try.func4, Try.ntmps4
  go_wp2_with fail
  refine (HAw.out _).mono ?_
  rintro e w1 ⟨rfl, hb⟩
  replace HB := stp HB hb
  replace HL := hid (HL.out.below hb)
  replace hRc := hRc.below hb hRc.lt
  clear hb
  go_wp2_with fail
  refine (HRt.out _ HL.out).mono ?_
  rintro e w2 ⟨rfl, hb⟩
  replace HB := stp HB hb
  replace HL := hid (HL.out.below hb)
  replace hRc := hRc.below hb hRc.lt
  clear hb
  go_wp2_with fail
  refine (HP1.out _ HL.out).mono ?_
  rintro e w3 ⟨a3, c3, rfl, hx, hb⟩
  obtain ⟨b3, o3, rfl, hly⟩ := hx.ly0 HPp.out.1
  replace HB := stp HB hb
  replace HL := hid (HL.out.below hb)
  replace hRc := hRc.below hb hRc.lt
  have HX := hid hly
  clear hb hx hly
  go_wp2_with fail
  refine (HVr.out _ _ _ HX.out.lies).mono ?_
  rintro e w4 ⟨rfl, hb⟩
  replace HB := stp HB hb
  replace HL := hid (HL.out.below hb)
  replace HX := hid (HX.out.below hb)
  replace hRc := hRc.below hb hRc.lt
  have hl16 := hRc.load
  clear hb
  go_wp2_with fail
  refine (HRl.out _ HL.out).mono ?_
  rintro e w5 ⟨rfl, hb⟩
  replace HB := stp HB hb
  replace HX := hid (HX.out.below hb)
  replace hRc := hRc.below hb hRc.lt
  clear hb hl16 HL
  have hl16 := hRc.load
  go_wp2_with fail
  refine (HRp.out _ _ _ _ HX.out).mono ?_
  rintro e w6 ⟨rfl, hb⟩
  replace HB := stp HB hb
  replace HX := hid (HX.out.below hb)
  clear hb hl16 hRc
  go_wp2_with fail
  refine (HP2.out _ _ _ _ HX.out).mono ?_
  rintro e w7 ⟨a7, c7, rfl, hx7, hb⟩
  replace HB := stp HB hb
  replace HX := hid (HX.out.below hb)
  have HX7 := hid hx7
  clear hb hx7
  go_wp2_with fail
  refine (HRe.out _ _ _ _ HX.out).mono ?_
  rintro e w8 ⟨g8, rfl, hx8, hb, _⟩
  replace HB := stp HB hb
  replace HX := hid (HX.out.below hb)
  replace HX7 := hid (HX7.out.below hb)
  have HX8 := hid hx8
  clear hb hx8
  go_wp2
  go_loopw [67] (fun iv wr => ∃ k : Nat, k ≤ m ∧ iv = .int .i64 k ∧ wr = w8) (fun iv _ => m - (intOf iv).toNat)
  case atStart => exact ⟨0, Nat.zero_le _, rfl, rfl⟩
  case round =>
    obtain ⟨k, hk, rfl, hwo⟩ := hrel
    subst hwo
    by_cases hlt : k < m
    · have i1 : (k : Int) < (m : Int) := by omega
      have c8 := HX8.out.cell k hlt
      have hk2 := HPp.out.2.2 k (by rw [HPp.out.2.1]; exact hlt)
      simp only [hk2] at c8
      clear hk2
      go_wp2
      go_roundw
      case rel => exact ⟨k + 1, by omega, by go_num, trivial⟩
      case measure => simp [intOf]; omega
    · obtain rfl : k = m := by omega
      have hvv : (v == v) = true := by simp
      go_wp2_with fail
      refine (HSa.out _ _ _ _ _ HX.out.lies HX7.out).mono ?_
      rintro e w9 ⟨rfl, q, rfl⟩
      go_wp2
      go_ret
      exact ⟨rfl, bdrew HB.out q⟩
theorem psame_law (hAw : Aw9) (hP : PrOk) (a : Option Addr) (cap : Nat) (l : List M.I) (ok : ∀ i ∈ l, M.okI i) (r : List Int) (hk : R.okR r) (w : World) (hl : Lies w a l) :
    Calls Try.prog 4 #[.slice a l.length cap, .agg (RB.enc r)] w fun e w' => e = .returned (.bool true) ∧ Below w.heap.size w w' := by
  by_cases hn : l.length ≤ 400
  · cases hb : M.rightB l with
    | false => exact psame_bad hAw a _ cap r l rfl hn ok w hl hb
    | true =>
      have hr := M.right_of.1 hb
      obtain ⟨b, o, rfl, hly⟩ := hl.ly0 hr
      exact psame_good hAw hP b o l.length cap r hk l rfl hn ok hr w hly
  · exact psame_big hAw a _ cap r (by omega) w
end Go.Proofs.Ytahaooghebmhnaa.B
