/-
  The walk of one statement: what is told to be wrong alone is the first such; what is all right alone, and ends by a return, is refused for a scratch word, or not at all.
-/
import Derived.Test.YtcojhfppipdfoabVerApp
namespace Go.Proofs.Ytcojhfppipdfoab.B
open Go.ChangeShapes Go.WideShapes Go.ChangeAt Go.RowKit
open Go.Sort hiding Below
set_option linter.unusedVariables false

set_option maxHeartbeats 3200000 in
set_option maxRecDepth 1000000 in
theorem lawF_skip (a : Option Addr) (n cap : Nat) (hm : n ≤ 9223372036854775807) (w : World) (h : n = 0 ∨ 300 < n) :
    Calls Try.prog 3 #[.slice a n cap] w fun e w' => e = .returned (.bool true) ∧ Below w.heap.size w w' := by
  have cs : ((n : Int) == 0) = true ∨ ((n : Int) == 0) = false ∧ decide ((300 : Int) < (n : Int)) = true := by
    by_cases h1 : n = 0
    · left; rw [beq_iff_eq]; omega
    · right; exact ⟨beq_eq_false_iff_ne.2 (by omega), decide_eq_true (by omega)⟩
  have HB := hid (Below.refl w.heap.size w)
  clear h
  rcases cs with d1 | ⟨d1, d2⟩
  all_goals
    go_enter Try.func3, Try.ntmps3
    go_wp2_with (go_at_call 4; refine (awake_any _).mono ?_; rintro e w1 ⟨rfl, hb⟩; replace HB := stp HB hb; clear hb)
    go_ret
    exact ⟨rfl, HB.out⟩

set_option maxHeartbeats 3200000 in
set_option maxRecDepth 1000000 in
theorem lawF_main (b o m cap : Nat) (l : List M.I) (hln : l.length = m + 1) (hn : m + 1 ≤ 300) (ok : ∀ i ∈ l, M.okI i) (w : World) (hl : Ly w b o l) :
    Calls Try.prog 3 #[.slice (some ⟨b, o, none⟩) (m + 1) cap] w fun e w' => e = .returned (.bool true) ∧ Below w.heap.size w w' := by
  have d1 : ((m : Int) + 1 == 0) = false := beq_eq_false_iff_ne.2 (by omega)
  have d2 : decide ((300 : Int) < (m : Int) + 1) = false := decide_eq_false (by omega)
  have HB := hid (Below.refl w.heap.size w)
  obtain ⟨⟨p, e0⟩, hp⟩ : ∃ x, M.check l = x := ⟨_, rfl⟩
  have HC := hid (fun a cap w hl => check_any a (m + 1) cap l hln (by omega) ok w hl p e0 hp)
  have HH := hid (And.intro hln (And.intro ok (And.intro hl hp)))
  clear hln ok hl hp
  go_enter Try.func3, Try.ntmps3
  go_wp2_with (first
    | (go_at_call 4; refine (awake_any _).mono ?_; rintro e w1 ⟨rfl, hb⟩; replace HB := stp HB hb; clear hb)
    | (at_builtin; refine wpList_append_row (by rfl) _ _ rfl w1.heap.size 0 (m + 1) 0 cap (some ⟨w1.heap.size, 0, none⟩) (some ⟨b, o, none⟩) [] l rfl (Own.new w1) rfl (HH.out.2.2.1.below (stp HB (al _ _)).out).lies HH.out.1 (by omega) (by simp) ?_))
  intro a2 cap2 w2 hown hb
  try simp only [Nat.zero_add, List.nil_append] at hown
  have HO := hid (show Lies w2 a2 l from hown.lies)
  replace HB := hid (HB.out.trans ((((al w1 _).trans hb)).mono HB.out.size))
  clear hown hb
  go_wp2_with fail
  refine (HC.out _ _ _ HO.out).mono ?_
  rintro e w3 ⟨rfl, hb⟩
  replace HB := stp HB hb
  clear hb HO HC
  go_wp2
  go_loopw [5, 6] (fun fv iv wr => ∃ (j : Int) (F : Nat), iv = .int .i64 j ∧ fv = .int .i64 F ∧ -1 ≤ j ∧ j ≤ m ∧ j < F ∧ F ≤ m + 1 ∧ Hid (Below w.heap.size w wr ∧ (∀ k : Nat, j < k → k < F → M.wrong l k = false) ∧ (F < m + 1 → M.wrong l F = true))) (fun _ iv _ => (intOf iv + 1).toNat)
  case atStart => exact ⟨m, m + 1, rfl, by go_num, by omega, by omega, by omega, Nat.le_refl _, HB.out, fun k h1 h2 => by omega, fun h => by omega⟩
  case round =>
    clear HB
    obtain ⟨j, F, rfl, rfl, hj1, hj2, hjF, hF, HR⟩ := hrel
    by_cases hj : 0 ≤ j
    · obtain ⟨k, rfl⟩ : ∃ k : Nat, j = k := ⟨j.toNat, by omega⟩
      have hkl : k < l.length := by rw [HH.out.1]; omega
      have HC := hid (fun w hl => local_ly b o (m + 1) cap k l HH.out.1 (by omega) hkl HH.out.2.1 w hl)
      have hw := M.wrong_at hkl
      rw [HH.out.1] at hw
      generalize M.loc (m + 1) k l[k] = x at *
      have HW := hid hw
      clear hw
      rcases hz : (x != 0) with _ | _
      · go_wp2_with (go_at_call 6; refine (HC.out _ (HH.out.2.2.1.below HR.out.1)).mono ?_; rintro e w4 ⟨rfl, hb⟩; have HB := stp (hid HR.out.1) hb; clear hb)
        go_roundw
        case rel => exact ⟨(k : Int) - 1, F, rfl, rfl, by omega, by omega, by omega, hF, HB.out, fun q h1 h2 => by
          by_cases e : q = k
          · subst e; rw [HW.out, hz]
          · exact HR.out.2.1 q (by omega) h2, HR.out.2.2⟩
        case measure => simp only [intOf]; omega
      · go_wp2_with (go_at_call 6; refine (HC.out _ (HH.out.2.2.1.below HR.out.1)).mono ?_; rintro e w4 ⟨rfl, hb⟩; have HB := stp (hid HR.out.1) hb; clear hb)
        go_roundw
        case rel => exact ⟨(k : Int) - 1, k, rfl, rfl, by omega, by omega, by omega, by omega, HB.out, fun q h1 h2 => by omega, fun _ => by rw [HW.out, hz]⟩
        case measure => simp only [intOf]; omega
    · obtain rfl : j = -1 := by omega
      have HA := hid (show ∀ k : Nat, k < F → M.wrong l k = false from fun k hk => HR.out.2.1 k (by omega) hk)
      have hln0 : M.lnE l.length = 0 := by rw [HH.out.1]; unfold M.lnE; rw [if_neg (by omega), if_neg (by omega)]
      by_cases hFn : F < m + 1
      · have hFl : F < l.length := by rw [HH.out.1]; exact hFn
        have i1 : (F : Int) < (m : Int) + 1 := by omega
        have hwF := HR.out.2.2 hFn
        rw [M.wrong_at hFl] at hwF
        have hne : M.loc l.length F l[F] ≠ 0 := by simpa using hwF
        have hwa := M.wa_some hFl hne HA.out
        have hck := M.check_alone hln0 (by rw [hwa]; exact hne)
        rw [HH.out.2.2.2, hwa, HH.out.1] at hck
        simp only [Prod.mk.injEq] at hck
        have HC := hid (fun w hl => local_ly b o (m + 1) cap F l HH.out.1 (by omega) hFl HH.out.2.1 w hl)
        obtain ⟨h1, h2⟩ := hck
        rw [← h2] at HC
        subst h1
        clear h2 hwF hne hwa hln0
        go_wp2_with (go_at_call 6; refine (HC.out _ (HH.out.2.2.1.below HR.out.1)).mono ?_; rintro e w4 ⟨rfl, hb⟩; have HB := stp (hid HR.out.1) hb; clear hb)
        go_ret
        exact ⟨by simp, HB.out⟩
      · obtain rfl : F = m + 1 := by omega
        have hwa := M.wa_none (l := l) fun j hj => HA.out j (by rw [HH.out.1] at hj; exact hj)
        have hck := M.check_end hln0 (by rw [hwa])
        have hml : m < l.length := by rw [HH.out.1]; omega
        have e9 : l.getD (l.length - 1) (0, 0, 0, 0) = l[m] := by
          rw [HH.out.1, List.getD_eq_getElem?_getD, show m + 1 - 1 = m by omega, List.getElem?_eq_getElem hml]; rfl
        rw [e9, HH.out.2.2.2, HH.out.1, show m + 1 - 1 = m by omega] at hck
        have hp0 := (HH.out.2.2.1.below HR.out.1).2 m hml
        have hokm := HH.out.2.1 _ (List.getElem_mem hml)
        clear e9
        generalize l[m] = x at *
        obtain ⟨c, t, f, kk⟩ := x
        obtain ⟨q0, q1, q2, q3⟩ := hp0
        simp only at q0 q1 q2 q3
        have hbk := hid hokm.1
        simp only at hbk
        have HE := hid hck
        have cs : (M.kind c != 13) = true ∧ (M.kind c != 14) = true ∧ M.rets (c, t, f, kk) = false ∨ ((M.kind c != 13) = false ∨ (M.kind c != 13) = true ∧ (M.kind c != 14) = false) ∧ M.rets (c, t, f, kk) = true := by
          unfold M.rets
          simp only [bne]
          cases (M.kind c == 13) <;> cases (M.kind c == 14) <;> simp
        clear hck hokm hln0
        rcases cs with ⟨d3, d4, d5⟩ | ⟨d3, d5⟩
        · have hpe : p = m ∧ e0 = 12 := by
            have := HE.out
            rw [if_pos d5] at this
            simp only [Prod.mk.injEq] at this
            exact this
          obtain ⟨rfl, rfl⟩ := hpe
          clear HE d5
          go_wp2_with (go_at_call 7; refine (rkind_any _ hbk.out.1 hbk.out.2 _).mono ?_; rintro e w4 ⟨rfl, hb⟩; have HB := stp (hid HR.out.1) hb; clear hb)
          go_ret
          exact ⟨by simp, HB.out⟩
        · have hua : M.ua l = (p, e0) := by
            have := HE.out
            rw [if_neg (by rw [d5]; simp)] at this
            exact this.symm
          clear HE d5
          cases hf : M.firstOf l.length (M.raw l) with
          | none =>
            have hpe : p = 0 ∧ e0 = 0 := by
              unfold M.ua at hua
              rw [hf] at hua
              simp only [Prod.mk.injEq] at hua
              exact ⟨hua.1.symm, hua.2.symm⟩
            obtain ⟨rfl, rfl⟩ := hpe
            clear hua hf
            rcases d3 with d3 | ⟨d3, d4⟩
            all_goals
              go_wp2_with (go_at_call 7; refine (rkind_any _ hbk.out.1 hbk.out.2 _).mono ?_; rintro e w4 ⟨rfl, hb⟩; have HB := stp (hid HR.out.1) hb; clear hb)
              go_ret
              exact ⟨by simp, HB.out⟩
          | some q =>
            have hpe : p = q ∧ e0 = 10 := by
              unfold M.ua at hua
              rw [hf] at hua
              simp only [Prod.mk.injEq] at hua
              exact ⟨hua.1.symm, hua.2.symm⟩
            obtain ⟨rfl, rfl⟩ := hpe
            have hr := (M.first_some.1 hf)
            have hpl := hr.1
            have hraw := hr.2.1
            rw [M.raw_at hpl, Bool.and_eq_true] at hraw
            clear hr hua hf
            have hplm : p < m + 1 := by rw [HH.out.1] at hpl; exact hpl
            have i1 : (p : Int) < (m : Int) + 1 := by omega
            have HPp := hid (fun w' (hb : Below w.heap.size w w') => (HH.out.2.2.1.below hb).2 p hpl)
            have hokp := HH.out.2.1 _ (List.getElem_mem hpl)
            generalize l[p] = y at *
            obtain ⟨c2, t2, f2, k2⟩ := y
            have hbk2 := hid hokp.1
            have b3 : 0 ≤ k2 ∧ k2 < 4294967296 := hokp.2.2.2
            simp only at hbk2 hraw
            have HWt := hid (fun w hl => without_any b o (m + 1) cap l HH.out.1 (by omega) (by omega) HH.out.2.1 w hl k2)
            have cs2 : (M.kind c2 == 4) = true ∨ (M.kind c2 == 4) = false ∧ (M.kind c2 == 6) = true := by
              have := hraw.1
              unfold M.rdW at this
              simp only at this
              cases h4 : (M.kind c2 == 4) with
              | true => exact .inl rfl
              | false => rw [h4] at this; exact .inr ⟨rfl, by simpa using this⟩
            have HBr := hid hraw.2
            clear hraw hokp
            rcases d3 with d3 | ⟨d3, d4⟩
            all_goals
              rcases cs2 with e4 | ⟨e4, e6⟩
              all_goals
                go_wp2_with fail
                refine (rkind_any _ hbk.out.1 hbk.out.2 _).mono ?_
                rintro e w4 ⟨rfl, hb⟩
                have HB := stp (hid HR.out.1) hb
                clear hb q0 q1 q2 q3
                obtain ⟨r0, r1, r2, r3⟩ := HPp.out _ HB.out
                simp only at r0 r1 r2 r3
                go_wp2_with fail
                refine (rkind_any _ hbk2.out.1 hbk2.out.2 _).mono ?_
                rintro e w5 ⟨rfl, hb⟩
                replace HB := stp HB hb
                clear hb r0 r1 r2 r3
                obtain ⟨r0, r1, r2, r3⟩ := HPp.out _ HB.out
                simp only at r0 r1 r2 r3
                go_wp2_with fail
                refine (HWt.out _ (HH.out.2.2.1.below HB.out)).mono ?_
                rintro e w6 ⟨g, rfl, hRow, hb, _⟩
                have cR := hRow.cell p hplm
                rw [HBr.out] at cR
                replace HB := stp HB hb
                clear hb hRow r0 r1 r2 r3
                go_wp2
                go_ret
                exact ⟨rfl, HB.out⟩
theorem lawF (a : Option Addr) (n cap : Nat) (l : List M.I) (hln : l.length = n) (hm : n ≤ 9223372036854775807) (ok : ∀ i ∈ l, M.okI i) (w : World) (hl : Lies w a l) :
    Calls Try.prog 3 #[.slice a n cap] w fun e w' => e = .returned (.bool true) ∧ Below w.heap.size w w' := by
  by_cases h : n = 0 ∨ 300 < n
  · exact lawF_skip a n cap hm w h
  · obtain ⟨b, o, rfl, hly⟩ := hl.ly (by omega)
    obtain ⟨m, rfl⟩ : ∃ m, n = m + 1 := ⟨n - 1, by omega⟩
    exact lawF_main b o m cap l hln (by omega) ok w hly
end Go.Proofs.Ytcojhfppipdfoab.B
