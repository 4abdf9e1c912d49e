/-
  How the library parts a row at one of its numbers, less ones ahead of it, as walks over the Go text.
-/
import Derived.Test.YtmooalbbaiccjaaSrtPrt
import Derived.BigRegion
import Derived.Deep.LoopGhost
import Derived.Deep.DeepCutAuto
import Derived.Deep.CutBlock
namespace Go.Proofs.Ytmooalbbaiccjaa.B
open Go.ChangeShapes Go.WideShapes Go.ChangeAt Go.RowKit
open Go.Sort hiding Below
set_option linter.unusedVariables false

theorem part_yes (d : Array Int) (a c pv i j i2 j2 : Nat) (dk : Array Int) (hd : swp d a pv = dk) (hi : i = a + 1) (hj : j = c - 1) (h1 : scanUp (fun x => ltInt x dk[a]!) dk j i = i2) (h2 : scanDown (fun x => !ltInt x dk[a]!) dk i2 j = j2) (hx : j2 < i2) :
    partition ltInt d a c pv = (j2, true, swp dk j2 a) := by
  subst hi; subst hj; subst hd; subst h1; subst h2
  exact if_pos hx
theorem part_no (d : Array Int) (a c pv i j i2 j2 : Nat) (dk : Array Int) (hd : swp d a pv = dk) (hi : i = a + 1) (hj : j = c - 1) (h1 : scanUp (fun x => ltInt x dk[a]!) dk j i = i2) (h2 : scanDown (fun x => !ltInt x dk[a]!) dk i2 j = j2) (hx : ¬ j2 < i2) :
    partition ltInt d a c pv = ((partLoop ltInt a (i2 + 1) (j2 - 1) (swp dk i2 j2)).1, false, swp (partLoop ltInt a (i2 + 1) (j2 - 1) (swp dk i2 j2)).2 (partLoop ltInt a (i2 + 1) (j2 - 1) (swp dk i2 j2)).1 a) := by
  subst hi; subst hj; subst hd; subst h1; subst h2
  exact if_neg hx

set_option maxHeartbeats 8000000 in
set_option maxRecDepth 1000000 in
theorem part_any {N n₀ b o : Nat} {w : World} (cap a c pv : Nat) (d : Array Int) (W : World) (h : Rw N n₀ b o w d W) (hap : a ≤ pv) (hpc : pv < c) (hc : c ≤ N) (hN : N < 50) :
    Calls Try.prog 40 #[.slice (some ⟨b, o, none⟩) N cap, .int .i64 a, .int .i64 c, .int .i64 pv] W fun e W' =>
      e = .returned (.tuple #[.int .i64 ((partition ltInt d a c pv).1 : Nat), .bool (partition ltInt d a c pv).2.1]) ∧ Rw N n₀ b o w (partition ltInt d a c pv).2.2 W' := by
  have HQ : Hid (swp d a pv = swp d a pv) := (rfl : swp d a pv = swp d a pv)
  obtain ⟨G, HG, hcw, hfw⟩ := h.opn
  have HK : Hid (Rw N n₀ b o w d W) := h
  clear h
  go_enter Try.func40, Try.ntmps40
  go_upto_region 1 with fail
  go_cut [] (fun wx => Rw N n₀ b o w (swp d a pv) wx)
  case first =>
    by_cases he : a = pv
    · subst he
      go_region
      all_goals go_wp2
      go_meet
      case rel =>
        have := HK.out.swp 1 a a (by omega) (by omega)
        simp only [← HG.out] at this
        exact this
    · go_region
      all_goals go_wp2
      go_meet
      case rel =>
        have := HK.out.swp 1 a pv (by omega) (by omega)
        simp only [← HG.out] at this
        exact this
  case rest =>
    clear hcw hfw HG HK
    obtain ⟨dk, hdk⟩ : ∃ dk, swp d a pv = dk := ⟨_, rfl⟩
    rw [hdk] at hcut
    have HD : Hid (swp d a pv = dk) := hdk
    have HR : Hid (Rw N n₀ b o w dk wc) := hcut
    clear hcut hdk HQ
    go_upto_region 2 with fail
    go_cut [10, 11] (fun v10 v11 wx => ∃ i j : Nat, v10 = .int .i64 (i : Int) ∧ v11 = .int .i64 (j : Int) ∧ i ≤ a + 1 ∧ a + 1 ≤ i ∧ j + 1 ≤ c ∧ c ≤ j + 1 ∧ Rw N n₀ b o w dk wx)
    case first =>
      go_wp2
      go_meet
      case rel => exact ⟨a + 1, c - 1, by go_num, by congr 1; omega, by omega, by omega, by omega, by omega, HR.out⟩
    case rest =>
      obtain ⟨i, j, rfl, rfl, hi1, hi2, hj1, hj2, hr⟩ := hcut
      clear HR
      have hij : i ≤ j + 1 := by omega
      have HR : Hid (Rw N n₀ b o w dk wc) := hr
      clear hr
      go_upto_block 0 with fail
      go_cut [10] (fun v wx => ∃ i2 : Nat, v = .int .i64 (i2 : Int) ∧ scanUp (fun x => ltInt x dk[a]!) dk j i = i2 ∧ i ≤ i2 ∧ i2 ≤ j + 1 ∧ (i2 ≤ j → (fun x => ltInt x dk[a]!) dk[i2]! = false) ∧ Rw N n₀ b o w dk wx)
      case first =>
        go_wp2_with fail
        go_loopw [10] (fun v wx => ∃ i2 : Nat, v = .int .i64 (i2 : Int) ∧ i ≤ i2 ∧ i2 ≤ j + 1 ∧ scanUp (fun x => ltInt x dk[a]!) dk j i2 = scanUp (fun x => ltInt x dk[a]!) dk j i ∧ Rw N n₀ b o w dk wx) (fun v _ => N + 1 - (nat v).toNat)
        case atStart => exact ⟨i, rfl, Nat.le_refl _, by omega, rfl, HR.out⟩
        case round =>
          obtain ⟨i2, rfl, h1, h2, hs, hr⟩ := hrel
          obtain ⟨G, HG, hcw, hfw⟩ := hr.opn
          have HS : Hid (scanUp (fun x => ltInt x dk[a]!) dk j i2 = scanUp (fun x => ltInt x dk[a]!) dk j i ∧ Rw N n₀ b o w dk wr) := ⟨hs, hr⟩
          clear hs hr HR
          by_cases hg : i2 ≤ j
          · have hgz : (i2 : Int) ≤ (j : Int) := by omega
            go_wp2_with fail
            go_big_quiet (first | (go_at_call 38; refine Calls.quiet_of_same (less_any _ _ _)))
            go_wp2_with fail
            · have hl : ltInt (G i2) (G a) = true := by assumption
              have hP : (fun x => ltInt x dk[a]!) dk[i2]! = true := by
                show ltInt dk[i2]! dk[a]! = true
                rw [← HG.out, ← HG.out]; exact hl
              go_roundw
              case rel => exact ⟨i2 + 1, by go_num, by omega, by omega, by rw [← HS.out.1, up_go (fun x => ltInt x dk[a]!) dk j i2 hg hP], HS.out.2.drewN nq⟩
              case measure => simp [nat]; omega
            · have hl : ltInt (G i2) (G a) = false := by assumption
              have hP : (fun x => ltInt x dk[a]!) dk[i2]! = false := by
                show ltInt dk[i2]! dk[a]! = false
                rw [← HG.out, ← HG.out]; exact hl
              go_meet
              case rel => exact ⟨i2, rfl, by rw [← HS.out.1, up_stop (fun x => ltInt x dk[a]!) dk j i2 (Or.inr hP)], h1, h2, fun _ => hP, HS.out.2.drewN nq⟩
          · have hgz : decide ((i2 : Int) ≤ (j : Int)) = false := decide_eq_false (by omega)
            go_wp2_with fail
            go_big_quiet (first | (go_at_call 38; refine Calls.quiet_of_same (less_any _ _ _)))
            go_wp2_with fail
            go_meet
            case rel => exact ⟨i2, rfl, by rw [← HS.out.1, up_stop (fun x => ltInt x dk[a]!) dk j i2 (Or.inl hg)], h1, h2, fun h => absurd h hg, HS.out.2.drewN nq⟩
      case rest =>
        obtain ⟨i2, rfl, hu1, hu2, hu3, hu4, hr⟩ := hcut
        have HU : Hid (scanUp (fun x => ltInt x dk[a]!) dk j i = i2 ∧ (i2 ≤ j → (fun x => ltInt x dk[a]!) dk[i2]! = false)) := ⟨hu1, hu4⟩
        have HR2 : Hid (Rw N n₀ b o w dk wc) := hr
        clear hu1 hu4 hr HR
        go_upto_block 2 with fail
        go_cut [11] (fun v wx => ∃ j2 : Nat, v = .int .i64 (j2 : Int) ∧ scanDown (fun x => !ltInt x dk[a]!) dk i2 j = j2 ∧ j2 ≤ j ∧ i2 ≤ j2 + 1 ∧ (i2 ≤ j2 → (fun x => !ltInt x dk[a]!) dk[j2]! = false) ∧ Rw N n₀ b o w dk wx)
        case first =>
          go_wp2_with fail
          go_loopw [11] (fun v wx => ∃ j2 : Nat, v = .int .i64 (j2 : Int) ∧ j2 ≤ j ∧ i2 ≤ j2 + 1 ∧ scanDown (fun x => !ltInt x dk[a]!) dk i2 j2 = scanDown (fun x => !ltInt x dk[a]!) dk i2 j ∧ Rw N n₀ b o w dk wx) (fun v _ => (nat v).toNat)
          case atStart => exact ⟨j, rfl, Nat.le_refl _, by omega, rfl, HR2.out⟩
          case round =>
            obtain ⟨j2, rfl, h1, h2, hs, hr⟩ := hrel
            obtain ⟨G, HG, hcw, hfw⟩ := hr.opn
            have HS : Hid (scanDown (fun x => !ltInt x dk[a]!) dk i2 j2 = scanDown (fun x => !ltInt x dk[a]!) dk i2 j ∧ Rw N n₀ b o w dk wr) := ⟨hs, hr⟩
            clear hs hr HR2
            by_cases hg : i2 ≤ j2
            · have hgz : (i2 : Int) ≤ (j2 : Int) := by omega
              go_wp2_with fail
              go_big_quiet (first | (go_at_call 38; refine Calls.quiet_of_same (less_any _ _ _)))
              go_wp2_with fail
              · have hl : (!ltInt (G j2) (G a)) = true := by assumption
                have hP : (fun x => !ltInt x dk[a]!) dk[j2]! = true := by
                  show (!ltInt dk[j2]! dk[a]!) = true
                  rw [← HG.out, ← HG.out]; exact hl
                go_roundw
                case rel => exact ⟨j2 - 1, by congr 1; omega, by omega, by omega, by rw [← HS.out.1, down_go (fun x => !ltInt x dk[a]!) dk i2 j2 (by omega) hg hP], HS.out.2.drewN nq⟩
                case measure => simp [nat]; omega
              · have hl : (!ltInt (G j2) (G a)) = false := by assumption
                have hP : (fun x => !ltInt x dk[a]!) dk[j2]! = false := by
                  show (!ltInt dk[j2]! dk[a]!) = false
                  rw [← HG.out, ← HG.out]; exact hl
                go_meet
                case rel => exact ⟨j2, rfl, by rw [← HS.out.1, down_stop (fun x => !ltInt x dk[a]!) dk i2 j2 (Or.inr hP)], h1, h2, fun _ => hP, HS.out.2.drewN nq⟩
            · have hgz : decide ((i2 : Int) ≤ (j2 : Int)) = false := decide_eq_false (by omega)
              go_wp2_with fail
              go_big_quiet (first | (go_at_call 38; refine Calls.quiet_of_same (less_any _ _ _)))
              go_wp2_with fail
              go_meet
              case rel => exact ⟨j2, rfl, by rw [← HS.out.1, down_stop (fun x => !ltInt x dk[a]!) dk i2 j2 (Or.inl hg)], h1, h2, fun h => absurd h hg, HS.out.2.drewN nq⟩
        case rest =>
          obtain ⟨j2, rfl, hv1, hv2, hv3, hv4, hr⟩ := hcut
          have HV : Hid (scanDown (fun x => !ltInt x dk[a]!) dk i2 j = j2 ∧ (i2 ≤ j2 → (fun x => !ltInt x dk[a]!) dk[j2]! = false)) := ⟨hv1, hv4⟩
          have HR3 : Hid (Rw N n₀ b o w dk wc) := hr
          clear hv1 hv4 hr HR2
          by_cases hx : j2 < i2
          · have hxz : (j2 : Int) < (i2 : Int) := by omega
            have HF : Hid (partition ltInt d a c pv = (j2, true, swp dk j2 a)) := part_yes d a c pv i j i2 j2 dk HD.out (by omega) (by omega) HU.out.1 HV.out.1 hx
            obtain ⟨G, HG, hcw, hfw⟩ := HR3.out.opn
            by_cases he : a = j2
            · subst he
              go_wp2
              go_region
              go_wp2
              refine bodyPost_ret (results_tmp2 rfl _ _ _) rfl ?_
              refine ⟨by rw [HF.out]; rfl, ?_⟩
              rw [HF.out]
              have := HR3.out.swp 1 a a (by omega) (by omega)
              simp only [← HG.out] at this
              exact this
            · go_wp2
              go_region
              go_wp2
              refine bodyPost_ret (results_tmp2 rfl _ _ _) rfl ?_
              refine ⟨by rw [HF.out]; rfl, ?_⟩
              rw [HF.out]
              have := HR3.out.swp 1 j2 a (by omega) (by omega)
              simp only [← HG.out] at this
              exact this
          · have hxz : decide ((j2 : Int) < (i2 : Int)) = false := decide_eq_false (by omega)
            have e1 := HU.out.2 (by omega)
            have e2 := HV.out.2 (by omega)
            have hne : i2 ≠ j2 := by
              intro e
              rw [e] at e1
              simp only at e1 e2
              rw [e1] at e2
              cases e2
            clear e1 e2
            have HQ : Hid (partition ltInt d a c pv = ((partLoop ltInt a (i2 + 1) (j2 - 1) (swp dk i2 j2)).1, false, swp (partLoop ltInt a (i2 + 1) (j2 - 1) (swp dk i2 j2)).2 (partLoop ltInt a (i2 + 1) (j2 - 1) (swp dk i2 j2)).1 a)) := part_no d a c pv i j i2 j2 dk HD.out (by omega) (by omega) HU.out.1 HV.out.1 hx
            obtain ⟨G, HG, hcw, hfw⟩ := HR3.out.opn
            go_wp2
            go_region
            have HR4 : Hid (Rw N n₀ b o w (swp dk i2 j2) (((wc.setCell ⟨b, o + i2, none⟩ (.int .u16 (G j2))).setCell ⟨b, o + j2, none⟩ (.int .u16 (G i2))).drew)) := by
              have := HR3.out.swp 1 i2 j2 (by omega) (by omega)
              simp only [← HG.out] at this
              exact this
            clear hcw hfw HR3
            generalize ((wc.setCell ⟨b, o + i2, none⟩ (.int .u16 (G j2))).setCell ⟨b, o + j2, none⟩ (.int .u16 (G i2))).drew = W4 at HR4 ⊢
            obtain ⟨d4, hd4⟩ : ∃ d4, swp dk i2 j2 = d4 := ⟨_, rfl⟩
            rw [hd4] at HR4 HQ
            clear hd4 HG
            obtain ⟨r, hr⟩ : ∃ r, partLoop ltInt a (i2 + 1) (j2 - 1) d4 = r := ⟨_, rfl⟩
            have HP : Hid (partLoop ltInt a (i2 + 1) (j2 - 1) d4 = r) := hr
            rw [hr] at HQ
            clear hr HU HV HD
            go_wp2
            go_loopw [10, 11] (fun v10 v11 wr => ∃ (i j : Nat) (dk : Array Int), v10 = .int .i64 (i : Int) ∧ v11 = .int .i64 (j : Int) ∧ a < i ∧ i ≤ j + 1 ∧ j < c ∧ Rw N n₀ b o w dk wr ∧ partLoop ltInt a i j dk = r) (fun v10 v11 _ => (nat v11 + 1 - nat v10).toNat)
            case atStart => exact ⟨i2 + 1, j2 - 1, d4, by go_num, by congr 1; omega, by omega, by omega, by omega, HR4.out, HP.out⟩
            case round =>
              clear HP HR4
              clear hij hi1 hi2 hj1 hj2 hu2 hu3 hv2 hv3 hx hxz hne
              obtain ⟨i, j, dk, rfl, rfl, hi, hij, hj, hr, hl⟩ := hrel
              have HR : Hid (Rw N n₀ b o w dk wr) := hr
              have HL : Hid (partLoop ltInt a i j dk = r) := hl
              clear hr hl
              go_upto_block 6 with fail
              go_cut [10] (fun v wx => ∃ i2 : Nat, v = .int .i64 (i2 : Int) ∧ scanUp (fun x => ltInt x dk[a]!) dk j i = i2 ∧ i ≤ i2 ∧ i2 ≤ j + 1 ∧ (i2 ≤ j → (fun x => ltInt x dk[a]!) dk[i2]! = false) ∧ Rw N n₀ b o w dk wx)
              case first =>
                go_wp2_with fail
                go_loopw [10] (fun v wx => ∃ i2 : Nat, v = .int .i64 (i2 : Int) ∧ i ≤ i2 ∧ i2 ≤ j + 1 ∧ scanUp (fun x => ltInt x dk[a]!) dk j i2 = scanUp (fun x => ltInt x dk[a]!) dk j i ∧ Rw N n₀ b o w dk wx) (fun v _ => N + 1 - (nat v).toNat)
                case atStart => exact ⟨i, rfl, Nat.le_refl _, by omega, rfl, HR.out⟩
                case round =>
                  obtain ⟨i2, rfl, h1, h2, hs, hr⟩ := hrel
                  obtain ⟨G, HG, hcw, hfw⟩ := hr.opn
                  have HS : Hid (scanUp (fun x => ltInt x dk[a]!) dk j i2 = scanUp (fun x => ltInt x dk[a]!) dk j i ∧ Rw N n₀ b o w dk wr) := ⟨hs, hr⟩
                  clear hs hr HR
                  by_cases hg : i2 ≤ j
                  · have hgz : (i2 : Int) ≤ (j : Int) := by omega
                    go_wp2_with fail
                    go_big_quiet (first | (go_at_call 38; refine Calls.quiet_of_same (less_any _ _ _)))
                    go_wp2_with fail
                    · have hl : ltInt (G i2) (G a) = true := by assumption
                      have hP : (fun x => ltInt x dk[a]!) dk[i2]! = true := by
                        show ltInt dk[i2]! dk[a]! = true
                        rw [← HG.out, ← HG.out]; exact hl
                      go_roundw
                      case rel => exact ⟨i2 + 1, by go_num, by omega, by omega, by rw [← HS.out.1, up_go (fun x => ltInt x dk[a]!) dk j i2 hg hP], HS.out.2.drewN nq⟩
                      case measure => simp [nat]; omega
                    · have hl : ltInt (G i2) (G a) = false := by assumption
                      have hP : (fun x => ltInt x dk[a]!) dk[i2]! = false := by
                        show ltInt dk[i2]! dk[a]! = false
                        rw [← HG.out, ← HG.out]; exact hl
                      go_meet
                      case rel => exact ⟨i2, rfl, by rw [← HS.out.1, up_stop (fun x => ltInt x dk[a]!) dk j i2 (Or.inr hP)], h1, h2, fun _ => hP, HS.out.2.drewN nq⟩
                  · have hgz : decide ((i2 : Int) ≤ (j : Int)) = false := decide_eq_false (by omega)
                    go_wp2_with fail
                    go_big_quiet (first | (go_at_call 38; refine Calls.quiet_of_same (less_any _ _ _)))
                    go_wp2_with fail
                    go_meet
                    case rel => exact ⟨i2, rfl, by rw [← HS.out.1, up_stop (fun x => ltInt x dk[a]!) dk j i2 (Or.inl hg)], h1, h2, fun h => absurd h hg, HS.out.2.drewN nq⟩
              case rest =>
                obtain ⟨i2, rfl, hu1, hu2, hu3, hu4, hr⟩ := hcut
                have HU : Hid (scanUp (fun x => ltInt x dk[a]!) dk j i = i2 ∧ (i2 ≤ j → (fun x => ltInt x dk[a]!) dk[i2]! = false)) := ⟨hu1, hu4⟩
                have HR2 : Hid (Rw N n₀ b o w dk wc) := hr
                clear hu1 hu4 hr HR
                go_upto_block 8 with fail
                go_cut [11] (fun v wx => ∃ j2 : Nat, v = .int .i64 (j2 : Int) ∧ scanDown (fun x => !ltInt x dk[a]!) dk i2 j = j2 ∧ j2 ≤ j ∧ i2 ≤ j2 + 1 ∧ (i2 ≤ j2 → (fun x => !ltInt x dk[a]!) dk[j2]! = false) ∧ Rw N n₀ b o w dk wx)
                case first =>
                  go_wp2_with fail
                  go_loopw [11] (fun v wx => ∃ j2 : Nat, v = .int .i64 (j2 : Int) ∧ j2 ≤ j ∧ i2 ≤ j2 + 1 ∧ scanDown (fun x => !ltInt x dk[a]!) dk i2 j2 = scanDown (fun x => !ltInt x dk[a]!) dk i2 j ∧ Rw N n₀ b o w dk wx) (fun v _ => (nat v).toNat)
                  case atStart => exact ⟨j, rfl, Nat.le_refl _, by omega, rfl, HR2.out⟩
                  case round =>
                    obtain ⟨j2, rfl, h1, h2, hs, hr⟩ := hrel
                    obtain ⟨G, HG, hcw, hfw⟩ := hr.opn
                    have HS : Hid (scanDown (fun x => !ltInt x dk[a]!) dk i2 j2 = scanDown (fun x => !ltInt x dk[a]!) dk i2 j ∧ Rw N n₀ b o w dk wr) := ⟨hs, hr⟩
                    clear hs hr HR2
                    by_cases hg : i2 ≤ j2
                    · have hgz : (i2 : Int) ≤ (j2 : Int) := by omega
                      go_wp2_with fail
                      go_big_quiet (first | (go_at_call 38; refine Calls.quiet_of_same (less_any _ _ _)))
                      go_wp2_with fail
                      · have hl : (!ltInt (G j2) (G a)) = true := by assumption
                        have hP : (fun x => !ltInt x dk[a]!) dk[j2]! = true := by
                          show (!ltInt dk[j2]! dk[a]!) = true
                          rw [← HG.out, ← HG.out]; exact hl
                        go_roundw
                        case rel => exact ⟨j2 - 1, by congr 1; omega, by omega, by omega, by rw [← HS.out.1, down_go (fun x => !ltInt x dk[a]!) dk i2 j2 (by omega) hg hP], HS.out.2.drewN nq⟩
                        case measure => simp [nat]; omega
                      · have hl : (!ltInt (G j2) (G a)) = false := by assumption
                        have hP : (fun x => !ltInt x dk[a]!) dk[j2]! = false := by
                          show (!ltInt dk[j2]! dk[a]!) = false
                          rw [← HG.out, ← HG.out]; exact hl
                        go_meet
                        case rel => exact ⟨j2, rfl, by rw [← HS.out.1, down_stop (fun x => !ltInt x dk[a]!) dk i2 j2 (Or.inr hP)], h1, h2, fun _ => hP, HS.out.2.drewN nq⟩
                    · have hgz : decide ((i2 : Int) ≤ (j2 : Int)) = false := decide_eq_false (by omega)
                      go_wp2_with fail
                      go_big_quiet (first | (go_at_call 38; refine Calls.quiet_of_same (less_any _ _ _)))
                      go_wp2_with fail
                      go_meet
                      case rel => exact ⟨j2, rfl, by rw [← HS.out.1, down_stop (fun x => !ltInt x dk[a]!) dk i2 j2 (Or.inl hg)], h1, h2, fun h => absurd h hg, HS.out.2.drewN nq⟩
                case rest =>
                  obtain ⟨j2, rfl, hv1, hv2, hv3, hv4, hr⟩ := hcut
                  have HV : Hid (scanDown (fun x => !ltInt x dk[a]!) dk i2 j = j2 ∧ (i2 ≤ j2 → (fun x => !ltInt x dk[a]!) dk[j2]! = false)) := ⟨hv1, hv4⟩
                  have HR3 : Hid (Rw N n₀ b o w dk wc) := hr
                  clear hv1 hv4 hr HR2
                  by_cases hx : j2 < i2
                  · have hxz : (j2 : Int) < (i2 : Int) := by omega
                    have HF : Hid (partition ltInt d a c pv = (j2, false, swp dk j2 a)) := by
                      show partition ltInt d a c pv = (j2, false, swp dk j2 a)
                      have e : partLoop ltInt a i j dk = (j2, dk) := by rw [partLoop_eq, HU.out.1, HV.out.1, if_pos hx]
                      rw [HQ.out, ← HL.out, e]
                    obtain ⟨G, HG, hcw, hfw⟩ := HR3.out.opn
                    by_cases he : a = j2
                    · subst he
                      go_wp2
                      go_region
                      go_wp2
                      refine bodyPost_ret (results_tmp2 rfl _ _ _) rfl ?_
                      refine ⟨by rw [HF.out]; rfl, ?_⟩
                      rw [HF.out]
                      have := HR3.out.swp 1 a a (by omega) (by omega)
                      simp only [← HG.out] at this
                      exact this
                    · go_wp2
                      go_region
                      go_wp2
                      refine bodyPost_ret (results_tmp2 rfl _ _ _) rfl ?_
                      refine ⟨by rw [HF.out]; rfl, ?_⟩
                      rw [HF.out]
                      have := HR3.out.swp 1 j2 a (by omega) (by omega)
                      simp only [← HG.out] at this
                      exact this
                  · have hxz : decide ((j2 : Int) < (i2 : Int)) = false := decide_eq_false (by omega)
                    have e1 := HU.out.2 (by omega)
                    have e2 := HV.out.2 (by omega)
                    have hne : i2 ≠ j2 := by
                      intro e
                      rw [e] at e1
                      simp only at e1 e2
                      rw [e1] at e2
                      cases e2
                    clear e1 e2
                    have HF : Hid (partLoop ltInt a i j dk = partLoop ltInt a (i2 + 1) (j2 - 1) (swp dk i2 j2)) := by
                      show partLoop ltInt a i j dk = _
                      rw [partLoop_eq, HU.out.1, HV.out.1, if_neg hx]
                    obtain ⟨G, HG, hcw, hfw⟩ := HR3.out.opn
                    go_wp2
                    go_region
                    go_wp2
                    go_roundw
                    case rel =>
                      refine ⟨i2 + 1, j2 - 1, swp dk i2 j2, by go_num, by congr 1; omega, by omega, by omega, by omega, ?_, by rw [← HL.out, HF.out]⟩
                      have := HR3.out.swp 1 i2 j2 (by omega) (by omega)
                      simp only [← HG.out] at this
                      exact this
                    case measure => simp [nat]; omega
end Go.Proofs.Ytmooalbbaiccjaa.B
