/-
  Step by step to the same answer, at the same places: the walk of the statement MachineFirst.
-/
import Derived.Test.YtejolpbdpcllkaaHF
namespace Go.Proofs.Ytejolpbdpcllkaa.B
open Go.ChangeShapes Go.WideShapes Go.ChangeAt Go.RowKit
open Go.Sort hiding Below
set_option linter.unusedVariables false

set_option maxHeartbeats 3200000 in
set_option maxRecDepth 1000000 in
theorem first_long (a : Option Addr) (n cap : Nat) (r : List Int) (hn : 300 < n) (w : World) :
    Calls Try.prog 6 #[.slice a n cap, .agg (RB.enc r)] w fun e w' => e = .returned (.bool true) ∧ Below w.heap.size w w' := by
  have hd : decide (300 < (n : Int)) = true := decide_eq_true (by omega)
  have HB := hid (al w (.cells (RB.enc r) 25))
  go_enter Try.func6, Try.ntmps6
  go_wp2_with fail
  refine (awake_any _).mono ?_
  rintro e w1 ⟨rfl, hb⟩
  replace HB := stp HB hb
  clear hb
  go_wp2_with fail
  refine (awake_any _).mono ?_
  rintro e w2 ⟨rfl, hb⟩
  replace HB := stp HB hb
  clear hb
  go_wp2
  go_ret
  exact ⟨rfl, HB.out⟩

set_option maxHeartbeats 3200000 in
set_option maxRecDepth 1000000 in
theorem first_bad (a : Option Addr) (n cap : Nat) (l : List M.I) (r : List Int) (hln : l.length = n) (hn : n ≤ 300) (ok : ∀ i ∈ l, M.okI i) (w : World) (hl : Lies w a l) (hb : M.rightB l = false) :
    Calls Try.prog 6 #[.slice a n cap, .agg (RB.enc r)] w fun e w' => e = .returned (.bool true) ∧ Below w.heap.size w w' := by
  have hd : decide (300 < (n : Int)) = false := decide_eq_false (by omega)
  have HB := hid (al w (.cells (RB.enc r) 25))
  have HL := hid (hl.below HB.out)
  have HC4 := hid (fun W (h : Lies W a l) => rright_any a n cap l hln (by omega) ok W h false hb)
  clear ok hl hb hln
  go_enter Try.func6, Try.ntmps6
  go_wp2_with fail
  refine (awake_any _).mono ?_
  rintro e w1 ⟨rfl, hb⟩
  replace HB := stp HB hb
  replace HL := hid (HL.out.below hb)
  clear hb
  go_wp2_with fail
  refine (HC4.out _ HL.out).mono ?_
  rintro e w2 ⟨rfl, hb⟩
  replace HB := stp HB hb
  clear hb HL
  go_wp2_with fail
  refine (awake_any _).mono ?_
  rintro e w3 ⟨rfl, hb⟩
  replace HB := stp HB hb
  clear hb
  go_wp2
  go_ret
  exact ⟨rfl, HB.out⟩

set_option maxHeartbeats 3200000 in
set_option maxRecDepth 1000000 in
theorem first_good (b o n cap : Nat) (l : List M.I) (r : List Int) (hln : l.length = n) (hn : n ≤ 300) (ok : ∀ i ∈ l, M.okI i) (hk : R.okR r) (w : World) (hl : Ly w b o l) (hr : M.right l) :
    Calls Try.prog 6 #[.slice (some ⟨b, o, none⟩) n cap, .agg (RB.enc r)] w fun e w' => e = .returned (.bool true) ∧ Below w.heap.size w w' := by
  have hd : decide (300 < (n : Int)) = false := decide_eq_false (by omega)
  have hX := RB.lcf_eq
  have hz := s0_lit
  have HB := hid (al w (.cells (RB.enc r) 25))
  have HL := hid (hl.below HB.out)
  have hRc := RB.Rec.new w r hk.1
  have hsz16 := RB.enc_size hk.1
  have hsz0 : (encS M.s0).size = 21 := rfl
  have HC1 := hid (fun W (h : Ly W b o l) => mrun_any b o n cap l r hln (by omega) ok hk W h hr)
  have HC3 := hid (fun W (h : Ly W b o l) => mtrace_any b o n cap l r hln (by omega) ok hk W h hr)
  have HC4 := hid (fun W (h : Lies W (some ⟨b, o, none⟩) l) => rright_any (some ⟨b, o, none⟩) n cap l hln (by omega) ok W h true (M.right_of.2 hr))
  have h0 := ((M.right_iff l).1 hr).1.1
  have hbl : b < w.heap.size := hl.1
  have HH := hid (And.intro hln (And.intro ok (And.intro hl (And.intro hr hk))))
  obtain ⟨v, hv⟩ : ∃ v, (M.run l r).1.an = v := ⟨_, rfl⟩
  obtain ⟨js, hjs⟩ : ∃ js, (M.run l r).2 = js := ⟨_, rfl⟩
  rw [hjs] at HC3
  rw [hv] at HC1
  obtain ⟨m, hm⟩ : ∃ m, js.length = m := ⟨_, rfl⟩
  have hmn : m ≤ n := by
    have := (M.run_ends hr ok r).2.2.2.2
    rw [hjs, hm, hln] at this; exact this
  have HJ := hid (show (M.run l r).1.an = v ∧ (M.run l r).2 = js ∧ js.length = m from ⟨hv, hjs, hm⟩)
  rw [hm] at HC3
  clear ok hl hr hk hln hjs hv hm
  go_enter Try.func6, Try.ntmps6
  go_wp2_with fail
  refine (awake_any _).mono ?_
  rintro e w1 ⟨rfl, hb⟩
  replace HB := stp HB hb
  replace HL := hid (HL.out.below hb)
  replace hRc := hRc.below hb hRc.lt
  clear hb
  go_wp2_with fail
  refine (HC4.out _ HL.out.lies).mono ?_
  rintro e w2 ⟨rfl, hb⟩
  replace HB := stp HB hb
  replace HL := hid (HL.out.below hb)
  replace hRc := hRc.below hb hRc.lt
  have hl16 := hRc.load
  clear hb
  go_wp2_with fail
  refine (HC1.out _ HL.out).mono ?_
  rintro e w3 ⟨rfl, hb⟩
  replace HB := stp HB hb
  replace HL := hid (HL.out.below hb)
  replace hRc := hRc.below hb hRc.lt
  replace hl16 := hRc.load
  clear hb
  go_wp2_with fail
  refine (HC3.out _ HL.out).mono ?_
  rintro e w4 ⟨g, c, rfl, hx, hb⟩
  replace HB := stp HB hb
  replace hRc := hRc.below hb hRc.lt
  obtain ⟨W5, hst5, hS5, hb5⟩ := new_st w4 M.s0 rfl
  have hgl : w.heap.size < w4.heap.size := hRc.lt
  have HI := hid (show St W5 w4.heap.size 27 M.s0 ∧ RB.Rec W5 w.heap.size r ∧ Below w.heap.size w W5 ∧ Nx W5 (some ⟨g, 0, none⟩) js ∧ M.Left l r [] l.length M.s0 from ⟨hS5, hRc.below hb5 hRc.lt, (stp HB hb5).out, hx.below hb5, M.Left.start r h0⟩)
  have hgw : g < w4.heap.size := by
    rcases hx with h | ⟨g', e, h, _⟩
    · exfalso
      have h1 := (M.run_ends HH.out.2.2.2.1 HH.out.2.1 r).2.1
      rw [HJ.out.2.1, h] at h1
      obtain ⟨tl, e⟩ := h1
      cases e
    · injection e with e
      injection e with e
      subst e
      exact h
  clear hb hx hl16 hRc HL HC1 HC3 HC4 hb5 hS5 HB h0
  go_wp2
  clear hst5
  go_loopw [10] (fun kv wr => ∃ (acc : List Nat) (q : Nat) (s : M.S), kv = .int .i64 (acc.length : Int) ∧ Hid (St wr w4.heap.size 27 s ∧ RB.Rec wr w.heap.size r ∧ Below w.heap.size w wr ∧ Nx wr (some ⟨g, 0, none⟩) js ∧ M.Left l r acc q s ∧ (s.en = true → ∃ ac p, acc = ac ++ [p] ∧ s.pc = ((p : Nat) : Int)))) (fun kv _ => n - (intOf kv).toNat)
  case atStart => exact ⟨[], l.length, M.s0, rfl, HI.out.1, HI.out.2.1, HI.out.2.2.1, HI.out.2.2.2.1, HI.out.2.2.2.2, fun h => by cases h⟩
  case round =>
    clear HI
    obtain ⟨acc, m', s, rfl, HR⟩ := hrel
    obtain ⟨s1, s2, s3, s4, s5⟩ := HR.out.1.cells
    rcases hen : s.en with _ | _
    · rw [hen] at s4
      obtain ⟨p, hp, hpl, hpm, _⟩ : ∃ p : Nat, s.pc = p ∧ p < l.length ∧ l.length ≤ p + m' ∧ s.en = false := by
        rcases HR.out.2.2.2.2.1.here with h | h
        · rw [hen] at h; cases h
        · exact h
      obtain ⟨m', rfl⟩ : ∃ q, m' = q + 1 := ⟨m' - 1, by omega⟩
      rw [hp] at s1
      obtain ⟨x, hx⟩ : ∃ x, l[p] = x := ⟨_, rfl⟩
      have HL := hid (show M.Left l r (acc ++ [p]) m' (M.stepI x r s) by rw [← hx]; exact HR.out.2.2.2.2.1.step HH.out.2.2.2.1 HH.out.2.1 HH.out.2.2.2.2 hp hpl hen hpm)
      have HE := hid (show (M.stepI x r s).en = true → ∃ ac q, acc ++ [p] = ac ++ [q] ∧ (M.stepI x r s).pc = ((q : Nat) : Int) by
        intro h
        rcases M.step_on HH.out.2.2.2.1 HH.out.2.1 r hp hpl hen with ⟨_, h2⟩ | ⟨h1, _⟩
        · rw [hx] at h2
          exact ⟨acc, p, rfl, h2⟩
        · rw [hx, h] at h1; cases h1)
      have hjk : js = acc ++ p :: (M.go l r m' (M.stepI x r s)).2 := by
        have := congrArg Prod.snd HL.out.all
        rw [HJ.out.2.1] at this
        rw [this]; simp
      have hkm : acc.length < m := by rw [← HJ.out.2.2, hjk]; simp
      have hkc := nx_cell HR.out.2.2.2.1 acc.length (by rw [HJ.out.2.2]; exact hkm)
      have hkx : js[acc.length]'(by rw [HJ.out.2.2]; exact hkm) = p := by
        have : js[acc.length]? = some p := by rw [hjk]; simp
        exact (List.getElem_eq_iff _).2 this
      rw [hkx] at hkc
      have HSt := hid (fun W (h : Ly W b o l) => step_good b o n cap p l r s HH.out.1 (by omega) hp hpl HH.out.2.1 HH.out.2.2.2.2 HR.out.2.2.2.2.1.ok hen W h (by have := M.right_loc HH.out.2.2.2.1 hpl; rwa [HH.out.1] at this) (by rw [hx]; exact HL.out.ok.m.1))
      obtain ⟨u, hu⟩ : ∃ u, M.stepI x r s = u := ⟨_, rfl⟩
      have hxu : M.stepI l[p] r s = u := by rw [hx]; exact hu
      have HSt2 := hid (show ∀ W, Ly W b o l → Calls Try.prog 10 #[.slice (some ⟨b, o, none⟩) n cap, .agg (RB.enc r), .agg (encS s)] W fun e w' => e = .returned (.tuple #[.agg (encS u), .int .i64 0]) ∧ Below W.heap.size W w' by rw [← hxu]; exact HSt.out)
      rw [hu] at HL HE
      have hum := HL.out.ok.m.1
      have hszu := encS_size hum
      have hsm := HR.out.1.2
      have hszs := encS_size hsm
      have i1 : (acc.length : Int) < (m : Int) := by omega
      have d1 : decide ((m : Int) ≤ (acc.length : Int)) = false := decide_eq_false (by omega)
      clear hu hxu HSt hjk hkx hx hpl hpm
      go_wp2
      go_quiet (fail)
      have hSd := HR.out.1.below (bdrew (Below.refl _ _) nq)
      have hRd := HR.out.2.1.below (bdrew (Below.refl _ _) nq) HR.out.2.1.lt
      have HBd := hid (bdrew HR.out.2.2.1 nq)
      have HXd := hid (HR.out.2.2.2.1.below (bdrew (Below.refl _ _) nq))
      obtain ⟨Wd, hWd⟩ : ∃ Wd, wr.drewN nq = Wd := ⟨_, rfl⟩
      rw [hWd] at hSd hRd HBd HXd ⊢
      clear HR s1 s2 s3 s4 s5 hkc hWd
      have hl21 := hSd.load
      have hl16 := hRd.load
      go_wp2_with fail
      refine (HSt2.out _ (HH.out.2.2.1.far HBd.out hbl)).mono ?_
      rintro e w6 ⟨rfl, hb⟩
      obtain ⟨W7, hst7, hU7, hb7⟩ := new_st w6 u hum
      have hS7 := (hSd.below hb).below hb7
      have hR7 := (hRd.below hb hRd.lt).below hb7 (hRd.below hb hRd.lt).lt
      have HB7 := stp (stp HBd hb) hb7
      have HX7 := hid ((HXd.out.below hb).below hb7)
      have hl21u := hU7.load
      obtain ⟨W8, hst8, hS8, hoth8, hsize8, hB8⟩ := hS7.storeK (u := u) hum
      have HF := hid (show St W8 w4.heap.size 27 u ∧ RB.Rec W8 w.heap.size r ∧ Below w.heap.size w W8 ∧ Nx W8 (some ⟨g, 0, none⟩) js from
        ⟨hS8, ⟨by rw [hoth8 _ (by omega)]; exact hR7.1, hR7.2⟩, hB8 w.heap.size w (by omega) HB7.out, by
          rcases HX7.out with h | ⟨g', e, h1, h2⟩
          · exact .inl h
          · injection e with e
            injection e with e
            subst e
            refine .inr ⟨g, rfl, by rw [hsize8]; exact h1, fun j hj => ?_⟩
            rw [← h2 j hj]
            unfold World.cell?
            simp only
            rw [hoth8 g (by omega)]⟩)
      clear hb hb7 hS7 hR7 HB7 HX7 hU7 hS8 hoth8 hsize8 hB8 hSd hRd HBd HXd hl21 hl16 HSt2
      go_wp2
      go_roundw
      case rel => exact ⟨acc ++ [p], m', u, by simp, HF.out.1, HF.out.2.1, HF.out.2.2.1, HF.out.2.2.2, HL.out, HE.out⟩
      case measure => simp [intOf]; omega
    · rw [hen] at s4
      have hd2 := HR.out.2.2.2.2.1.done hen
      obtain ⟨ac, p, hac, hpc⟩ := HR.out.2.2.2.2.2 hen
      rw [hpc] at s1
      have hja : js = acc := by rw [← HJ.out.2.1, hd2]
      have hva : s.an = v := by rw [← HJ.out.1, hd2]
      rw [hva] at s5
      have hm1 : m = ac.length + 1 := by rw [← HJ.out.2.2, hja, hac]; simp
      have hkc := nx_cell HR.out.2.2.2.1 ac.length (by rw [HJ.out.2.2]; omega)
      have hkx : js[ac.length]'(by rw [HJ.out.2.2]; omega) = p := by
        have : js[ac.length]? = some p := by rw [hja, hac]; simp
        exact (List.getElem_eq_iff _).2 this
      rw [hkx] at hkc
      have HB := hid HR.out.2.2.1
      have hw1 : IntKind.i64.wrap ((m : Int) - 1) = (ac.length : Int) := by rw [IntKind.wrap_i64]; omega
      have i1 : (ac.length : Int) < (m : Int) := by omega
      clear HR hd2 hac hpc hja hva hkx
      go_wp2
      go_quiet (fail)
      go_wp2
      go_ret
      exact ⟨rfl, bdrew HB.out _⟩
theorem first_law (a : Option Addr) (cap : Nat) (l : List M.I) (ok : ∀ i ∈ l, M.okI i) (r : List Int) (hr : R.okR r) (w : World) (hl : Lies w a l) :
    Calls Try.prog 6 #[.slice a l.length cap, .agg (RB.enc r)] w fun e w' => e = .returned (.bool true) ∧ Below w.heap.size w w' := by
  by_cases hn : l.length ≤ 300
  · cases hb : M.rightB l with
    | false => exact first_bad a l.length cap l r rfl hn ok w hl hb
    | true =>
      have hrt := M.right_of.1 hb
      have h0 := ((M.right_iff l).1 hrt).1.1
      obtain ⟨b, o, rfl, hly⟩ := hl.ly h0
      exact first_good b o l.length cap l r rfl hn ok hr w hly hrt
  · exact first_long a l.length cap r (by omega) w
end Go.Proofs.Ytejolpbdpcllkaa.B
