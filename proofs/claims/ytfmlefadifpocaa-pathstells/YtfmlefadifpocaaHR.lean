/-
  The reference's Check, as a walk over the Go text.
-/
import Derived.Test.YtfmlefadifpocaaHQ
namespace Go.Proofs.Ytfmlefadifpocaa.B
open Go.ChangeShapes Go.WideShapes Go.ChangeAt Go.RowKit
open Go.Sort hiding Below
set_option linter.unusedVariables false

theorem bdrew {B : Nat} {a w : World} (h : Below B a w) (n : Nat) : Below B a (w.drewN n) := ⟨h.os, h.tape, h.output, h.size, h.block⟩
theorem shr_bit (y d : Nat) (hy : y < 65536) : (bits .and .u16 ((y : Int) / 2 ^ d) 1 == 0) = !y.testBit d := by
  have e : (y : Int) / 2 ^ d = ((y / 2 ^ d : Nat) : Int) := by simp
  have hl : y / 2 ^ d < 65536 := Nat.lt_of_le_of_lt (Nat.div_le_self _ _) hy
  rw [e]
  generalize hq : y / 2 ^ d = q at *
  rw [u16_and _ _ (by omega) (by omega) (by omega) (by omega), Nat.testBit_eq_decide_div_mod_eq, hq]
  rw [show (1 : Int).toNat = 1 from rfl, Nat.and_one_is_mod]
  simp only [Int.toNat_natCast]
  rcases Nat.mod_two_eq_zero_or_one q with h | h <;> simp [h]
set_option maxHeartbeats 1600000 in
set_option maxRecDepth 100000 in
theorem rcheck_nil (a : Option Addr) (cap : Nat) (w : World) :
    Calls Try.prog 43 #[.slice a 0 cap] w fun e w' => e = .returned (.tuple #[.int .i64 0, .int .i64 4]) ∧ Below w.heap.size w w' := by
  go_enter Try.func43, Try.ntmps43
  go_wp2
  go_ret2
  exact ⟨rfl, Below.refl _ _⟩

set_option maxHeartbeats 3200000 in
set_option maxRecDepth 100000 in
theorem rcheck_pos (b o n cap : Nat) (l : List M.I) (hln : l.length = n) (h0 : 0 < n) (hn : n ≤ 4096) (ok : ∀ i ∈ l, M.okI i) (w : World) (hl : Ly w b o l) (p : Nat) (e0 : Int) (hp : M.check l = (p, e0)) :
    Calls Try.prog 43 #[.slice (some ⟨b, o, none⟩) n cap] w fun e w' => e = .returned (.tuple #[.int .i64 (p : Int), .int .i64 e0]) ∧ Below w.heap.size w w' := by
  have c0 : ((n : Int) == 0) = false := beq_eq_false_iff_ne.2 (by omega)
  have c1 : ¬ 4096 < (n : Int) := by omega
  have hln0 : M.lnE n = 0 := by unfold M.lnE; rw [if_neg (by omega), if_neg (by omega)]
  have HH := hid (And.intro hln (And.intro ok (And.intro hl (And.intro hp hln0))))
  clear hln ok hl hp hln0
  go_enter Try.func43, Try.ntmps43
  go_wp2
  go_loopw [4] (fun i wr => ∃ k : Nat, k ≤ n ∧ i = .int .i64 k ∧ Hid (Below w.heap.size w wr ∧ ∀ j, j < k → M.wrong l j = false)) (fun i _ => n - (intOf i).toNat)
  case atStart => exact ⟨0, Nat.zero_le _, rfl, Below.refl _ _, fun j hj => by omega⟩
  case round =>
    obtain ⟨k, hk, rfl, HR⟩ := hrel
    by_cases hlt : k < n
    · have i1 : (k : Int) < (n : Int) := by omega
      have hkl : k < l.length := by rw [HH.out.1]; exact hlt
      have HC := hid (fun w hl => rlocal_ly b o n cap k l HH.out.1 (by omega) hkl HH.out.2.1 w hl)
      obtain ⟨x, hx⟩ : ∃ x, M.loc n k l[k] = x := ⟨_, rfl⟩
      rw [hx] at HC
      have HX := hid hx
      have HK := hid hkl
      clear hx
      rcases hz : (x != 0) with _ | _
      · go_wp2_with (go_at_call 56; refine (HC.out _ (HH.out.2.2.1.below HR.out.1)).mono ?_; rintro e w1 ⟨rfl, hb⟩; have HB := stp (hid HR.out.1) hb; clear hb)
        go_roundw
        case rel => exact ⟨k + 1, by omega, by go_num, HB.out, fun j hj => by
          by_cases e : j = k
          · subst e
            rw [M.wrong_at HK.out]
            have h1 := HX.out
            rw [← HH.out.1] at h1
            rw [h1, hz]
          · exact HR.out.2 j (by omega)⟩
        case measure => simp [intOf]; omega
      · have HP := hid (show p = k ∧ e0 = x by
          have h1 := HX.out
          rw [← HH.out.1] at h1
          have h3 : x ≠ 0 := by simpa using hz
          have h4 := M.wa_some HK.out (by rw [h1]; exact h3) HR.out.2
          rw [h1] at h4
          have h2 := HH.out.2.2.2.1
          rw [M.check_alone (by rw [HH.out.1]; exact HH.out.2.2.2.2) (by rw [h4]; exact h3), h4] at h2
          simp only [Prod.mk.injEq] at h2
          exact ⟨h2.1.symm, h2.2.symm⟩)
        go_wp2_with (go_at_call 56; refine (HC.out _ (HH.out.2.2.1.below HR.out.1)).mono ?_; rintro e w1 ⟨rfl, hb⟩; have HB := stp (hid HR.out.1) hb; clear hb)
        go_ret2
        exact ⟨by rw [HP.out.1, HP.out.2]; rfl, HB.out⟩
    · obtain rfl : k = n := by omega
      obtain ⟨m, rfl⟩ : ∃ m, k = m + 1 := ⟨k - 1, by omega⟩
      have hml : m < l.length := by rw [HH.out.1]; omega
      have h2 := HH.out.2.2.2.1
      have hwa := M.wa_none (l := l) fun j hj => HR.out.2 j (by rw [HH.out.1] at hj; exact hj)
      rw [M.check_end (by rw [HH.out.1]; exact HH.out.2.2.2.2) (by rw [hwa])] at h2
      have e9 : l.getD (l.length - 1) (0, 0, 0, 0) = l[m] := by
        rw [HH.out.1, List.getD_eq_getElem?_getD, show m + 1 - 1 = m by omega, List.getElem?_eq_getElem hml]; rfl
      rw [e9, HH.out.1, show m + 1 - 1 = m by omega] at h2
      have HQ := hid ((HH.out.2.2.1.below HR.out.1).2 m hml)
      have hokm := HH.out.2.1 _ (List.getElem_mem hml)
      clear e9
      generalize l[m] = x at *
      obtain ⟨c, t, f, kk⟩ := x
      obtain ⟨q0, q1, q2, q3⟩ := HQ.out
      simp only at q0 q1 q2 q3
      have hbk := hid hokm.1
      simp only at hbk
      have i1 : ((m + 1 : Nat) : Int) - 1 = (m : Int) := by omega
      have i2 : (m : Int) < ((m + 1 : Nat) : Int) := by omega
      have HW := hid (fun w hl => rwritten_any (some ⟨b, o, none⟩) (m + 1) cap l HH.out.1 HH.out.2.1 w hl HH.out.2.2.2.2 (by rw [hwa]))
      have HE := hid h2
      have cs : (M.kind c != 13) = true ∧ (M.kind c != 14) = true ∧ M.rets (c, t, f, kk) = false ∨ ((M.kind c != 13) = false ∨ (M.kind c != 13) = true ∧ (M.kind c != 14) = false) ∧ M.rets (c, t, f, kk) = true := by
        unfold M.rets
        simp only [bne]
        cases (M.kind c == 13) <;> cases (M.kind c == 14) <;> simp
      clear h2 hokm HQ
      rcases cs with ⟨d1, d2, d3⟩ | ⟨d1, d3⟩
      · have HP := hid (show p = m ∧ e0 = 12 by
          have := HE.out
          rw [if_pos d3] at this
          simp only [Prod.mk.injEq] at this
          exact ⟨this.1.symm, this.2.symm⟩)
        go_wp2_with fail
        refine (rkind_any _ hbk.out.1 hbk.out.2 _).mono ?_
        rintro e w2 ⟨rfl, hb⟩
        have HB := stp (hid HR.out.1) hb
        clear hb
        go_wp2
        go_ret2
        exact ⟨by rw [HP.out.1, HP.out.2]; rfl, HB.out⟩
      · have HP := hid (show M.ua l = (p, e0) by
          have := HE.out
          rw [if_neg (by rw [d3]; simp)] at this
          exact this)
        clear HE d3
        rcases d1 with d1 | ⟨d1, d2⟩
        all_goals
          go_wp2_with fail
          refine (rkind_any _ hbk.out.1 hbk.out.2 _).mono ?_
          rintro e w2 ⟨rfl, hb⟩
          have HB := stp (hid HR.out.1) hb
          clear hb
          go_wp2_with (go_at_call 57; refine (HW.out _ (HH.out.2.2.1.below HB.out).lies).mono ?_; rintro e w3 ⟨g, rfl, hRow, hb⟩; replace HB := stp HB hb)
          have HI := hid (And.intro hRow HB.out)
          clear hRow hb HB HR q0 q1 q2 q3 i1 i2
          go_loopw [8] (fun i wr => ∃ k : Nat, k ≤ m + 1 ∧ i = .int .i64 k ∧ Hid (Below w3.heap.size w3 wr ∧ ∀ j, j < k → M.raw l j = false)) (fun i _ => m + 1 - (intOf i).toNat)
          case atStart => exact ⟨0, Nat.zero_le _, rfl, Below.refl _ _, fun j hj => by omega⟩
          case round =>
            obtain ⟨k, hk, rfl, HJ⟩ := hrel
            have HBw := hid (HI.out.2.trans (HJ.out.1.mono HI.out.2.size))
            by_cases hlt : k < m + 1
            · have i1 : (k : Int) < (m : Int) + 1 := by omega
              have hkl : k < l.length := by rw [HH.out.1]; exact hlt
              have hok := HH.out.2.1 _ (List.getElem_mem hkl)
              have hloc : M.loc (m + 1) k l[k] = 0 := by
                have := M.wa_zero (l := l) (by rw [hwa]) k hkl
                rw [M.wrong_at hkl, HH.out.1] at this
                simpa using this
              have hld : M.kind l[k].1 = 4 ∨ M.kind l[k].1 = 6 → l[k].2.2.2 < 16 := M.loc_ld hloc
              have hraw := M.raw_at hkl
              have HQ := hid (fun w' (hb : Below wr.heap.size wr w') => (HH.out.2.2.1.below ((stp HBw hb).out)).2 k hkl)
              have HRw := hid (fun w' (hb : Below wr.heap.size wr w') => (HI.out.1.below ((stp (hid HJ.out.1) hb).out)).cell k hlt)
              have hp0 := HQ.out wr (Below.refl _ _)
              clear hloc
              generalize l[k] = x at *
              obtain ⟨c2, t2, f2, k2⟩ := x
              obtain ⟨q0, q1, q2, q3⟩ := hp0
              simp only at q0 q1 q2 q3 hld hraw
              have hbk2 := hid hok.1
              have b3 : 0 ≤ k2 ∧ k2 < 4294967296 := hok.2.2.2
              obtain ⟨d, rfl⟩ : ∃ d : Nat, k2 = d := ⟨k2.toNat, by omega⟩
              simp only at hbk2
              obtain ⟨y, hy⟩ : ∃ y, M.wr l k = y := ⟨_, rfl⟩
              have hyl : y < 65536 := by rw [← hy]; exact M.wr_lt l k
              rw [hy] at HRw
              have HY := hid hy
              clear hy hok
              go_wp2_with fail
              refine (rkind_any _ hbk2.out.1 hbk2.out.2 _).mono ?_
              rintro e w4 ⟨rfl, hb⟩
              have hc := HRw.out _ hb
              obtain ⟨r0, r1, r2, r3⟩ := HQ.out _ hb
              simp only at r0 r1 r2 r3
              have HB := stp HBw hb
              have HJ2 := stp (hid HJ.out.1) hb
              clear hb q0 q1 q2 q3
              have cs : (M.kind c2 == 4) = true ∨ (M.kind c2 == 4) = false ∧ ((M.kind c2 == 6) = true ∨ (M.kind c2 == 6) = false) := by
                cases (M.kind c2 == 4) <;> cases (M.kind c2 == 6) <;> simp
              have hbit : d < 16 → (bits .and .u16 ((y : Int) / 2 ^ d) 1 == 0) = M.bare l d k := fun h => by
                rw [shr_bit y d hyl, ← HY.out, M.wr_bit l k d h]; simp
              have hf : M.rdW (c2, t2, f2, (d : Int)) = (M.kind c2 == 4 || M.kind c2 == 6) := rfl
              rw [hf] at hraw
              have HX := hid (And.intro hld (And.intro hbit hraw))
              clear hld hbit hraw hf
              rcases cs with d4 | ⟨d4, d6 | d6⟩
              · have hd : d < 16 := by have := HX.out.1 (Or.inl (eq_of_beq d4)); omega
                have hd' : (d : Int) < 16 := by omega
                have hg := HX.out.2.1 hd
                have hr : M.raw l k = M.bare l d k := by rw [HX.out.2.2, d4]; simp
                rw [← hr] at hg
                clear hr
                rcases hz : M.raw l k with _ | _
                · rw [hz] at hg
                  go_wp2
                  go_quiet (fail)
                  go_wp2
                  go_roundw
                  case rel => exact ⟨k + 1, by omega, by go_num, bdrew HJ2.out _, fun j hj => by
                    by_cases e : j = k
                    · subst e; exact hz
                    · exact HJ.out.2 j (by omega)⟩
                  case measure => simp [intOf]; omega
                · rw [hz] at hg
                  have HPP := hid (show p = k ∧ e0 = 10 by
                    have := HP.out
                    rw [M.ua_some hkl hz HJ.out.2] at this
                    simp only [Prod.mk.injEq] at this
                    exact ⟨this.1.symm, this.2.symm⟩)
                  go_wp2
                  go_quiet (fail)
                  go_wp2
                  go_ret2
                  exact ⟨by rw [HPP.out.1, HPP.out.2]; rfl, bdrew HB.out _⟩
              · have hd : d < 16 := by have := HX.out.1 (Or.inr (eq_of_beq d6)); omega
                have hd' : (d : Int) < 16 := by omega
                have hg := HX.out.2.1 hd
                have hr : M.raw l k = M.bare l d k := by rw [HX.out.2.2, d4, d6]; simp
                rw [← hr] at hg
                clear hr
                rcases hz : M.raw l k with _ | _
                · rw [hz] at hg
                  go_wp2
                  go_quiet (fail)
                  go_wp2
                  go_roundw
                  case rel => exact ⟨k + 1, by omega, by go_num, bdrew HJ2.out _, fun j hj => by
                    by_cases e : j = k
                    · subst e; exact hz
                    · exact HJ.out.2 j (by omega)⟩
                  case measure => simp [intOf]; omega
                · rw [hz] at hg
                  have HPP := hid (show p = k ∧ e0 = 10 by
                    have := HP.out
                    rw [M.ua_some hkl hz HJ.out.2] at this
                    simp only [Prod.mk.injEq] at this
                    exact ⟨this.1.symm, this.2.symm⟩)
                  go_wp2
                  go_quiet (fail)
                  go_wp2
                  go_ret2
                  exact ⟨by rw [HPP.out.1, HPP.out.2]; rfl, bdrew HB.out _⟩
              · have hz : M.raw l k = false := by rw [HX.out.2.2, d4, d6]; rfl
                go_wp2
                go_quiet (fail)
                go_wp2
                go_roundw
                case rel => exact ⟨k + 1, by omega, by go_num, bdrew HJ2.out _, fun j hj => by
                  by_cases e : j = k
                  · subst e; exact hz
                  · exact HJ.out.2 j (by omega)⟩
                case measure => simp [intOf]; omega
            · obtain rfl : k = m + 1 := by omega
              have HPP := hid (show p = 0 ∧ e0 = 0 by
                have := HP.out
                rw [M.ua_none (fun j hj => HJ.out.2 j (by rw [HH.out.1] at hj; exact hj))] at this
                simp only [Prod.mk.injEq] at this
                exact ⟨this.1.symm, this.2.symm⟩)
              go_wp2
              go_ret2
              exact ⟨by rw [HPP.out.1, HPP.out.2]; rfl, HBw.out⟩

theorem rcheck_any (a : Option Addr) (n cap : Nat) (l : List M.I) (hln : l.length = n) (hn : n ≤ 4096) (ok : ∀ i ∈ l, M.okI i) (w : World) (hl : Lies w a l) (p : Nat) (e0 : Int) (hp : M.check l = (p, e0)) :
    Calls Try.prog 43 #[.slice a n cap] w fun e w' => e = .returned (.tuple #[.int .i64 (p : Int), .int .i64 e0]) ∧ Below w.heap.size w w' := by
  by_cases h : n = 0
  · subst h
    have : M.check l = (0, 4) := by unfold M.check; rw [if_pos hln]
    rw [this] at hp
    simp only [Prod.mk.injEq] at hp
    obtain ⟨rfl, rfl⟩ := hp
    exact rcheck_nil a cap w
  · obtain ⟨b, o, rfl, hly⟩ := hl.ly (by omega)
    exact rcheck_pos b o n cap l hln (by omega) hn ok w hly p e0 hp
end Go.Proofs.Ytfmlefadifpocaa.B
