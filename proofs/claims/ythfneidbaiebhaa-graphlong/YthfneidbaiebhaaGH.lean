/-
  What a filter does is a way through its blocks: the walk of the statement GraphWays, of a filter.
-/
import Derived.Test.YthfneidbaiebhaaGG
namespace Go.Proofs.Ythfneidbaiebhaa.M
theorem chn_get {l : List I} : ∀ (tl : List Nat) (p : Nat), chn l p tl → ∀ k (h : k + 1 < (p :: tl).length), (p :: tl)[k + 1] ∈ beh (p :: tl)[k] (at0 l (p :: tl)[k]) := by
  intro tl
  induction tl with
  | nil => intro p _ k h; simp at h
  | cons q tl ih =>
    intro p hc k h
    cases k with
    | zero => exact hc.1
    | succ k =>
      have h' : k + 1 < (q :: tl).length := by simp only [List.length_cons] at *; omega
      exact ih q hc.2 k h'
end Go.Proofs.Ythfneidbaiebhaa.M
namespace Go.Proofs.Ythfneidbaiebhaa.B
open Go.ChangeShapes Go.WideShapes Go.ChangeAt Go.RowKit
open Go.Sort hiding Below
set_option linter.unusedVariables false

/-- a place in a block -/
structure InB (l : List M.I) (N p : Nat) : Prop where
  lt : N < (M.leads l).length
  lo : lf l N ≤ p
  hi : p ≤ M.toOf l (lf l N)
theorem lf_lead {l : List M.I} {N : Nat} (h : N < (M.leads l).length) : lf l N < l.length ∧ M.lead l (lf l N) = true := by
  rw [lf_eq h]; exact M.leads_mem.1 (List.getElem_mem h)
theorem lf_numb {l : List M.I} {y : Nat} (hy : y < l.length) (hl : M.lead l y = true) : lf l (M.numb l y) = y := by
  have h := M.leads_get hy hl
  unfold lf
  rw [List.getD_eq_getElem?_getD, h]; rfl
theorem InB.in_ {l : List M.I} {N p y : Nat} (hr : M.right l) (h : InB l N p) (hp : p < M.toOf l (lf l N)) (hy : y ∈ M.beh p (M.at0 l p)) : y = p + 1 ∧ InB l N (p + 1) := by
  have hs := (M.toOf_spec hr (lf_lead h.lt).1).2.2.2 p h.lo hp
  rw [M.beh_on (M.stp_not hs).1] at hy
  exact ⟨by simpa using hy, h.lt, by have := h.lo; omega, hp⟩
theorem InB.out_ {l : List M.I} {N p y : Nat} (hr : M.right l) (ok : ∀ x ∈ l, M.okI x) (h : InB l N p) (hp : p = M.toOf l (lf l N)) (hy : y ∈ M.beh p (M.at0 l p)) : y < l.length ∧ M.lead l y = true ∧ InB l (M.numb l y) y := by
  obtain ⟨f1, f2⟩ := lf_lead h.lt
  subst hp
  obtain ⟨h1, h2, _⟩ := M.blk_next hr ok f1 f2 hy
  refine ⟨h1, h2, by rw [M.leads_len]; exact M.numb_lt l h1 h2, by rw [lf_numb h1 h2]; exact Nat.le_refl _, by rw [lf_numb h1 h2]; exact (M.toOf_spec hr h1).1⟩
/-- what the walk needs of a run: it begins at 0, each next place is behind the one ahead of it -/
structure Wy (l : List M.I) (T : List Nat) : Prop where
  pos : 0 < T.length
  zero : T.getD 0 0 = 0
  step : ∀ k, k + 1 < T.length → T.getD (k + 1) 0 ∈ M.beh (T.getD k 0) (M.at0 l (T.getD k 0))
theorem wy_run {l : List M.I} (hr : M.right l) (ok : ∀ x ∈ l, M.okI x) (r : List Int) : Wy l (M.run l r).2 := by
  obtain ⟨tl, e, h⟩ := M.run_chn hr ok r
  rw [e]
  refine ⟨by simp, rfl, fun k hk => ?_⟩
  have := M.chn_get tl 0 h k hk
  rw [List.getD_eq_getElem?_getD, List.getD_eq_getElem?_getD, List.getElem?_eq_getElem hk, List.getElem?_eq_getElem (show k < (0 :: tl).length by omega)]
  exact this
theorem nx_getD {w : World} {g : Nat} {js : List Nat} (h : Nx w (some ⟨g, 0, none⟩) js) (k : Nat) (hk : k < js.length) : w.cell? ⟨g, k, none⟩ = some (.int .i64 ((js.getD k 0 : Nat) : Int)) := by
  rw [List.getD_eq_getElem?_getD, List.getElem?_eq_getElem hk]; exact nx_get h k hk

set_option maxHeartbeats 6400000 in
set_option maxRecDepth 1000000 in
theorem ways_good (b o n cap : Nat) (l : List M.I) (r : List Int) (hln : l.length = n) (hn : n ≤ 200) (ok : ∀ i ∈ l, M.okI i) (hk : R.okR r) (w : World) (hl : Ly w b o l) (hr : M.right l) :
    Calls Try.prog 5 #[.slice (some ⟨b, o, none⟩) n cap, .agg (RB.enc r)] w fun e w' => e = .returned (.bool true) ∧ Below w.heap.size w w' := by
  have hd : decide (200 < (n : Int)) = false := decide_eq_false (by omega)
  have hX := RB.lcf_eq
  have HB := hid (al w (.cells (RB.enc r) 46))
  have HL := hid (hl.below HB.out)
  have hRc := RB.Rec.new w r hk.1
  have hsz16 := RB.enc_size hk.1
  have HRt := hid (fun W (h : Ly W b o l) => rright8 (some ⟨b, o, none⟩) n cap l hln (by omega) ok W h.lies true (M.right_of.2 hr))
  have HBl := hid (fun W (h : Ly W b o l) => gblocks_any b o n cap l hln (by omega) ok hr W h)
  have HTr := hid (fun W (h : Ly W b o l) => mtrace_any b o n cap l r hln (by omega) ok hk W h hr)
  have hW := wy_run hr ok r
  have hsN : (M.run l r).2.length ≤ n := by
    have h1 := M.run_far hr ok r
    have h2 := M.far_len l 0
    rw [hln] at h2
    omega
  obtain ⟨T, hT⟩ : ∃ T, (M.run l r).2 = T := ⟨_, rfl⟩
  rw [hT] at HTr hW hsN
  obtain ⟨s, hs⟩ : ∃ s, T.length = s := ⟨_, rfl⟩
  rw [hs] at HTr hsN
  have h0 : 0 < n := by rw [← hln]; exact ((M.right_iff l).1 hr).1.1
  obtain ⟨m, hm⟩ : ∃ m, (M.leads l).length = m := ⟨_, rfl⟩
  have hmn : m ≤ n := by rw [← hm, M.leads_len, hln]; exact numb_le l n
  have hm0 : 0 < m := by
    have := M.numb_lt l (show 0 < n from h0) (M.lead_zero l)
    rw [← hm, M.leads_len, hln]; omega
  have hs0 : 0 < s := by rw [← hs]; exact hW.pos
  have hI0 : InB l 0 0 := by
    have hz : lf l 0 = 0 := by
      have h := M.leads_zero (l := l) (by rw [hln]; exact h0)
      unfold lf
      rw [List.getD_eq_getElem?_getD, h]; rfl
    exact ⟨by rw [hm]; exact hm0, by rw [hz]; exact Nat.le_refl _, Nat.zero_le _⟩
  have hmz : ((m : Int) == 0) = false := by rw [beq_eq_false_iff_ne]; omega
  rw [hm] at HBl
  have HH := hid (And.intro hln (And.intro ok (And.intro hr (And.intro hm (And.intro hW (And.intro hs hI0))))))
  clear hln ok hl hr hm hW hs hT hI0
  go_enter Try.func5, Try.ntmps5
  go_wp2_with fail
  refine (awake_any _).mono ?_
  rintro e w1 ⟨rfl, hb⟩
  replace HB := stp HB hb
  replace HL := hid (HL.out.below hb)
  replace hRc := hRc.below hb hRc.lt
  clear hb
  go_wp2_with fail
  refine (HRt.out _ HL.out).mono ?_
  rintro e w2 ⟨rfl, hb⟩
  replace HB := stp HB hb
  replace HL := hid (HL.out.below hb)
  replace hRc := hRc.below hb hRc.lt
  have hl16 := hRc.load
  clear hb HRt
  go_wp2_with fail
  refine (HTr.out _ HL.out).mono ?_
  rintro e w3 ⟨gt, ct, rfl, hx, hb⟩
  replace HB := stp HB hb
  replace HL := hid (HL.out.below hb)
  have HXT := hid hx
  clear hb hl16 hRc hx HTr
  go_wp2_with fail
  refine (HBl.out _ HL.out).mono ?_
  rintro e w4 ⟨g, cb, rfl, hx, hg, hb⟩
  replace HB := stp HB hb
  replace HXT := hid (HXT.out.below hb)
  have HX := hid (And.intro hx hg)
  clear hb hx hg HBl HL
  go_wp2
  go_loopw [9, 10, 53] (fun nv av iv wr => ∃ k N nq : Nat, k < s ∧ iv = .int .i64 k ∧ nv = .int .i64 (N : Int) ∧ av = .int .i64 ((T.getD k 0 : Nat) : Int) ∧ Hid (InB l N (T.getD k 0)) ∧ wr = w4.drewN nq) (fun _ _ iv _ => s - (intOf iv).toNat)
  case atStart => exact ⟨0, 0, 0, hs0, rfl, rfl, by rw [HH.out.2.2.2.2.1.zero]; rfl, by rw [HH.out.2.2.2.2.1.zero]; exact HH.out.2.2.2.2.2.2, rfl⟩
  case round =>
    obtain ⟨k, N, nq, hks, rfl, rfl, rfl, HI, rfl⟩ := hrel
    have i2 : (k : Int) < (s : Int) := by omega
    have hNm : N < m := by rw [← HH.out.2.2.2.1]; exact HI.out.lt
    have i3 : (N : Int) < (m : Int) := by omega
    have cp := nx_getD HXT.out k (by rw [HH.out.2.2.2.2.2.1]; exact hks)
    obtain ⟨x1, x2, _, a1, c1, x4, x5, x6⟩ := HX.out.1 N hNm
    obtain ⟨f, hf⟩ : ∃ f, lf l N = f := ⟨_, rfl⟩
    obtain ⟨t, ht⟩ : ∃ t, M.toOf l f = t := ⟨_, rfl⟩
    obtain ⟨p, hp⟩ : ∃ p, T.getD k 0 = p := ⟨_, rfl⟩
    have hf1 : (M.blk l f).f = f := rfl
    have hf2 : (M.blk l f).t = t := ht
    have hlo := HI.out.lo
    have hhi := HI.out.hi
    rw [hf] at hlo hhi
    rw [ht] at hhi
    rw [hp] at cp hlo hhi HI ⊢
    rw [hf, hf1] at x1
    rw [hf, hf2] at x2
    rw [hf] at x4 x5
    have htn : t < n := by
      have := (M.toOf_spec HH.out.2.2.1 (lf_lead HI.out.lt).1).2.1
      rw [hf, ht, HH.out.1] at this
      exact this
    have e0 : ((p : Int) != (p : Int)) = false := by simp
    have e1 : decide (p < f) = false := decide_eq_false (by omega)
    have e2 : decide (t < p) = false := decide_eq_false (by omega)
    have HP := hid (And.intro hf (And.intro ht hp))
    clear hf ht hp hf1 hf2
    by_cases hkl : k + 1 = s
    · have e3 : ((k : Int) == (s : Int) - 1) = true := by rw [beq_iff_eq]; omega
      go_wp2
      go_ret
      exact ⟨rfl, bdrew HB.out _⟩
    · have e3 : ((k : Int) == (s : Int) - 1) = false := by rw [beq_eq_false_iff_ne]; omega
      have hks2 : k + 1 < s := by omega
      have hstep := HH.out.2.2.2.2.1.step k (by rw [HH.out.2.2.2.2.2.1]; exact hks2)
      rw [HP.out.2.2] at hstep
      by_cases hpt : p < t
      · have e4 : decide (p < t) = true := decide_eq_true hpt
        obtain ⟨hy, hin⟩ := HI.out.in_ HH.out.2.2.1 (by rw [HP.out.1, HP.out.2.1]; exact hpt) hstep
        have HY := hid (And.intro hy hin)
        clear hstep hy hin
        go_wp2
        go_roundw
        case rel => exact ⟨k + 1, N, nq, by omega, by go_num, rfl, by rw [HY.out.1]; go_num, by rw [HY.out.1]; exact HY.out.2, rfl⟩
        case measure => simp [intOf]; omega
      · have e4 : decide (p < t) = false := decide_eq_false hpt
        have hpe : p = t := by omega
        obtain ⟨y, hy⟩ : ∃ y, T.getD (k + 1) 0 = y := ⟨_, rfl⟩
        have cy := nx_getD HXT.out (k + 1) (by rw [HH.out.2.2.2.2.2.1]; exact hks2)
        rw [hy] at hstep cy
        obtain ⟨_, hyl, hin⟩ := HI.out.out_ HH.out.2.2.1 HH.out.2.1 (by rw [HP.out.1, HP.out.2.1]; exact hpe) hstep
        obtain ⟨js, hjs⟩ : ∃ js, M.beh t (M.at0 l t) = js := ⟨_, rfl⟩
        rw [hpe, hjs] at hstep
        have hbn : (M.blk l f).n = js.map (M.numb l) := by unfold M.blk; rw [HP.out.2.1, hjs]
        rw [hbn] at x4 x5
        rw [List.length_map] at x4
        have HJ := hid (show ∀ z ∈ js, z < l.length ∧ M.lead l z = true ∧ M.numb l z < m from fun z hz => by
          have hz' : z ∈ M.beh p (M.at0 l p) := by rw [hpe, hjs]; exact hz
          obtain ⟨h1, h2, h3⟩ := HI.out.out_ HH.out.2.2.1 HH.out.2.1 (by rw [HP.out.1, HP.out.2.1]; exact hpe) hz'
          exact ⟨h1, h2, by rw [← HH.out.2.2.2.1]; exact h3.lt⟩)
        have hjl : js.length ≤ 2 := by rw [← hjs]; exact M.beh_len _ _
        obtain ⟨q0, hq0⟩ : ∃ q0, js.length = q0 := ⟨_, rfl⟩
        rw [hq0] at x4 hjl
        have HQ0 := hid hq0
        have HX5 := hid x5
        have HY := hid (And.intro hstep (And.intro hin hy))
        obtain ⟨z0, hz0⟩ : ∃ z0, M.numb l y = z0 := ⟨_, rfl⟩
        have HZ0 := hid hz0
        have i4 : (k : Int) + 1 < (s : Int) := by omega
        have i5 : 0 ≤ (k : Int) + 1 := by omega
        clear hstep hin hy hyl hjs hbn hq0 x5 x6 hz0 hpe
        go_wp2
        clear x1 x2 x4 cp e0 e1 e2 e3 e4
        go_loopw [9, 10, 13, 99] (fun nv av fv qv wr => ∃ q mq : Nat, q ≤ q0 ∧ qv = .int .i64 q ∧ ((y ∈ js.take q ∧ nv = .int .i64 (z0 : Int) ∧ av = .int .i64 (y : Int) ∧ fv = .bool true) ∨ (y ∉ js.take q ∧ nv = .int .i64 (N : Int) ∧ av = .int .i64 ((p : Int) + 1) ∧ fv = .bool false)) ∧ wr = w4.drewN mq) (fun _ _ _ qv _ => q0 - (intOf qv).toNat)
        case atStart => exact ⟨0, nq, Nat.zero_le _, rfl, .inr ⟨by simp, rfl, rfl, rfl⟩, rfl⟩
        case round =>
          obtain ⟨q, mq, hq, rfl, hcs, rfl⟩ := hrel
          by_cases hq2 : q < q0
          · have i6 : (q : Int) < (q0 : Int) := by omega
            have hqj : q < js.length := by rw [HQ0.out]; exact hq2
            obtain ⟨g', rfl⟩ : ∃ g', a1 = some ⟨g', 0, none⟩ := by
              rcases HX5.out with h | ⟨g', e, _⟩
              · have h := congrArg List.length h
                rw [List.length_map] at h
                simp at h
                rw [h] at hqj; simp at hqj
              · exact ⟨g', e⟩
            obtain ⟨u, hu⟩ : ∃ u, js[q] = u := ⟨_, rfl⟩
            obtain ⟨u1, u2, u3⟩ := HJ.out u (by rw [← hu]; exact List.getElem_mem hqj)
            have cz := nx_get HX5.out q (by rw [List.length_map]; exact hqj)
            simp only [List.getElem_map, hu] at cz
            obtain ⟨x1, _⟩ := HX.out.1 _ u3
            have hlz : lf l (M.numb l u) = u := lf_numb u1 u2
            have hbf : (M.blk l (lf l (M.numb l u))).f = u := hlz
            rw [hbf] at x1
            obtain ⟨z, hz⟩ : ∃ z, M.numb l u = z := ⟨_, rfl⟩
            rw [hz] at cz x1 u3
            have i7 : (z : Int) < (m : Int) := by omega
            have HT := hid (show y ∈ js.take (q + 1) ↔ y ∈ js.take q ∨ y = u by rw [M.take_succ_mem hqj, hu])
            have HE := hid (show u = y → z = z0 from fun h => by rw [← hz, ← HZ0.out, h])
            clear hu u1 u2 hlz hbf hz hqj
            by_cases huy : u = y
            · have d1 : ((u : Int) == (y : Int)) = true := by rw [beq_iff_eq]; omega
              have hzz := HE.out huy
              subst hzz
              have HIn := hid (show y ∈ js.take (q + 1) from HT.out.2 (.inr huy.symm))
              clear huy HT HE
              rcases hcs with ⟨_, rfl, rfl, rfl⟩ | ⟨_, rfl, rfl, rfl⟩
              all_goals
                go_wp2
                go_quiet (fail)
                go_wp2
                go_quiet (fail)
                go_wp2
                go_roundw
                case rel => exact ⟨q + 1, _, by omega, by go_num, .inl ⟨HIn.out, rfl, rfl, rfl⟩, rfl⟩
                case measure => simp [intOf]; omega
            · have d1 : ((u : Int) == (y : Int)) = false := by rw [beq_eq_false_iff_ne]; omega
              have HIn := hid (show y ∈ js.take (q + 1) ↔ y ∈ js.take q from by
                rw [HT.out]
                exact ⟨fun h => by rcases h with h | h; exact h; exact absurd h.symm huy, .inl⟩)
              clear huy HT HE
              rcases hcs with ⟨hc, rfl, rfl, rfl⟩ | ⟨hc, rfl, rfl, rfl⟩
              · have HC := hid hc
                clear hc
                go_wp2
                go_quiet (fail)
                go_wp2
                go_roundw
                case rel => exact ⟨q + 1, _, by omega, by go_num, .inl ⟨HIn.out.2 HC.out, rfl, rfl, rfl⟩, rfl⟩
                case measure => simp [intOf]; omega
              · have HC := hid hc
                clear hc
                go_wp2
                go_quiet (fail)
                go_wp2
                go_roundw
                case rel => exact ⟨q + 1, _, by omega, by go_num, .inr ⟨fun h => HC.out (HIn.out.1 h), rfl, rfl, rfl⟩, rfl⟩
                case measure => simp [intOf]; omega
          · obtain rfl : q = q0 := by omega
            rw [← HQ0.out, List.take_length] at hcs
            rcases hcs with ⟨_, rfl, rfl, rfl⟩ | ⟨hc, _⟩
            · go_wp2
              go_roundw
              case rel => exact ⟨k + 1, z0, mq, by omega, by go_num, rfl, by rw [HY.out.2.2], by rw [HY.out.2.2, ← HZ0.out]; exact HY.out.2.1, rfl⟩
              case measure => simp [intOf]; omega
            · exact absurd HY.out.1 hc
end Go.Proofs.Ythfneidbaiebhaa.B
