/-
  How the library parts a row at one of its numbers, as walks over the Go text.
-/
import Derived.Test.YtmooalbbaiccjaaSrtBase
import Derived.BigRegion
import Derived.Deep.LoopGhost
import Derived.Deep.DeepCutAuto
import Derived.Deep.CutBlock
namespace Go.Proofs.Ytmooalbbaiccjaa.B
open Go.ChangeShapes Go.WideShapes Go.ChangeAt Go.RowKit
open Go.Sort hiding Below
set_option linter.unusedVariables false

section
variable (p : Int → Bool) (d : Array Int)
theorem up_go (j i : Nat) (h : i ≤ j) (hp : p d[i]! = true) : scanUp p d j i = scanUp p d j (i + 1) := by rw [scanUp, if_pos (by simp [h, hp])]
theorem up_stop (j i : Nat) (h : ¬ i ≤ j ∨ p d[i]! = false) : scanUp p d j i = i := by
  rw [scanUp, if_neg]
  rcases h with h | h
  · simp [h]
  · simp [h]
theorem down_go (i j : Nat) (h1 : 1 ≤ j) (h : i ≤ j) (hp : p d[j]! = true) : scanDown p d i j = scanDown p d i (j - 1) := by
  cases j with
  | zero => omega
  | succ k => rw [scanDown, if_pos (by simp [h, hp])]; rfl
theorem down_stop (i j : Nat) (h : ¬ i ≤ j ∨ p d[j]! = false) : scanDown p d i j = j := by
  cases j with
  | zero => rw [scanDown]
  | succ k =>
    rw [scanDown, if_neg]
    rcases h with h | h
    · simp [h]
    · simp [h]
end

set_option maxHeartbeats 8000000 in
set_option maxRecDepth 1000000 in
theorem parteq_any {N n₀ b o : Nat} {w : World} (cap a c pv : Nat) (d : Array Int) (W : World) (h : Rw N n₀ b o w d W) (hap : a ≤ pv) (hpc : pv < c) (hc : c ≤ N) (hN : N < 50) :
    Calls Try.prog 39 #[.slice (some ⟨b, o, none⟩) N cap, .int .i64 a, .int .i64 c, .int .i64 pv] W fun e W' =>
      e = .returned (.int .i64 ((partitionEqual ltInt d a c pv).1 : Nat)) ∧ Rw N n₀ b o w (partitionEqual ltInt d a c pv).2 W' := by
  obtain ⟨r, hq⟩ : ∃ r, partEqLoop ltInt a (a + 1) (c - 1) (swp d a pv) = r := ⟨_, rfl⟩
  unfold partitionEqual
  rw [hq]
  have HQ : Hid (partEqLoop ltInt a (a + 1) (c - 1) (swp d a pv) = r) := hq
  obtain ⟨G, HG, hcw, hfw⟩ := h.opn
  have HK : Hid (Rw N n₀ b o w d W) := h
  clear h hq
  go_enter Try.func39, Try.ntmps39
  go_upto_region 1 with fail
  go_cut [] (fun wx => Rw N n₀ b o w (swp d a pv) wx)
  case first =>
    by_cases he : a = pv
    · subst he
      go_region
      all_goals go_wp2
      go_meet
      case rel =>
        have := HK.out.swp 1 a a (by omega) (by omega)
        simp only [← HG.out] at this
        exact this
    · go_region
      all_goals go_wp2
      go_meet
      case rel =>
        have := HK.out.swp 1 a pv (by omega) (by omega)
        simp only [← HG.out] at this
        exact this
  case rest =>
    clear hcw hfw HG HK
    obtain ⟨d1, hd1⟩ : ∃ d1, swp d a pv = d1 := ⟨_, rfl⟩
    rw [hd1] at hcut HQ
    have HR : Hid (Rw N n₀ b o w d1 wc) := hcut
    clear hcut hd1
    go_wp2
    go_loopw [9, 10] (fun v9 v10 wr => ∃ (i j : Nat) (dk : Array Int), v9 = .int .i64 (i : Int) ∧ v10 = .int .i64 (j : Int) ∧ a < i ∧ i ≤ j + 1 ∧ j < c ∧ Rw N n₀ b o w dk wr ∧ partEqLoop ltInt a i j dk = r) (fun v9 v10 _ => (nat v10 + 1 - nat v9).toNat)
    case atStart => exact ⟨a + 1, c - 1, d1, by go_num, by congr 1; omega, by omega, by omega, by omega, HR.out, HQ.out⟩
    case round =>
      obtain ⟨i, j, dk, rfl, rfl, hi, hij, hj, hr, hl⟩ := hrel
      clear HR HQ
      have HR : Hid (Rw N n₀ b o w dk wr) := hr
      have HL : Hid (partEqLoop ltInt a i j dk = r) := hl
      clear hr hl
      go_upto_block 2 with fail
      go_cut [9] (fun v wx => ∃ i2 : Nat, v = .int .i64 (i2 : Int) ∧ scanUp (fun x => !ltInt dk[a]! x) dk j i = i2 ∧ i ≤ i2 ∧ i2 ≤ j + 1 ∧ (i2 ≤ j → (fun x => !ltInt dk[a]! x) dk[i2]! = false) ∧ Rw N n₀ b o w dk wx)
      case first =>
        go_wp2_with fail
        go_loopw [9] (fun v wx => ∃ i2 : Nat, v = .int .i64 (i2 : Int) ∧ i ≤ i2 ∧ i2 ≤ j + 1 ∧ scanUp (fun x => !ltInt dk[a]! x) dk j i2 = scanUp (fun x => !ltInt dk[a]! x) dk j i ∧ Rw N n₀ b o w dk wx) (fun v _ => N + 1 - (nat v).toNat)
        case atStart => exact ⟨i, rfl, Nat.le_refl _, by omega, rfl, HR.out⟩
        case round =>
          obtain ⟨i2, rfl, h1, h2, hs, hr⟩ := hrel
          obtain ⟨G, HG, hcw, hfw⟩ := hr.opn
          have HS : Hid (scanUp (fun x => !ltInt dk[a]! x) dk j i2 = scanUp (fun x => !ltInt dk[a]! x) dk j i ∧ Rw N n₀ b o w dk wr) := ⟨hs, hr⟩
          clear hs hr HR
          by_cases hg : i2 ≤ j
          · have hgz : (i2 : Int) ≤ (j : Int) := by omega
            go_wp2_with fail
            go_big_quiet (first | (go_at_call 38; refine Calls.quiet_of_same (less_any _ _ _)))
            go_wp2_with fail
            · have hl : (!ltInt (G a) (G i2)) = true := by assumption
              have hP : (fun x => !ltInt dk[a]! x) dk[i2]! = true := by
                show (!ltInt dk[a]! dk[i2]!) = true
                rw [← HG.out, ← HG.out]; exact hl
              go_roundw
              case rel => exact ⟨i2 + 1, by go_num, by omega, by omega, by rw [← HS.out.1, up_go (fun x => !ltInt dk[a]! x) dk j i2 hg hP], HS.out.2.drewN nq⟩
              case measure => simp [nat]; omega
            · have hl : (!ltInt (G a) (G i2)) = false := by assumption
              have hP : (fun x => !ltInt dk[a]! x) dk[i2]! = false := by
                show (!ltInt dk[a]! dk[i2]!) = false
                rw [← HG.out, ← HG.out]; exact hl
              go_meet
              case rel => exact ⟨i2, rfl, by rw [← HS.out.1, up_stop (fun x => !ltInt dk[a]! x) dk j i2 (Or.inr hP)], h1, h2, fun _ => hP, HS.out.2.drewN nq⟩
          · have hgz : decide ((i2 : Int) ≤ (j : Int)) = false := decide_eq_false (by omega)
            go_wp2_with fail
            go_big_quiet (first | (go_at_call 38; refine Calls.quiet_of_same (less_any _ _ _)))
            go_wp2_with fail
            go_meet
            case rel => exact ⟨i2, rfl, by rw [← HS.out.1, up_stop (fun x => !ltInt dk[a]! x) dk j i2 (Or.inl hg)], h1, h2, fun h => absurd h hg, HS.out.2.drewN nq⟩
      case rest =>
        obtain ⟨i2, rfl, hu1, hu2, hu3, hu4, hr⟩ := hcut
        have HU : Hid (scanUp (fun x => !ltInt dk[a]! x) dk j i = i2 ∧ (i2 ≤ j → (fun x => !ltInt dk[a]! x) dk[i2]! = false)) := ⟨hu1, hu4⟩
        have HR2 : Hid (Rw N n₀ b o w dk wc) := hr
        clear hu1 hu4 hr HR
        go_upto_block 4 with fail
        go_cut [10] (fun v wx => ∃ j2 : Nat, v = .int .i64 (j2 : Int) ∧ scanDown (fun x => ltInt dk[a]! x) dk i2 j = j2 ∧ j2 ≤ j ∧ i2 ≤ j2 + 1 ∧ (i2 ≤ j2 → (fun x => ltInt dk[a]! x) dk[j2]! = false) ∧ Rw N n₀ b o w dk wx)
        case first =>
          go_wp2_with fail
          go_loopw [10] (fun v wx => ∃ j2 : Nat, v = .int .i64 (j2 : Int) ∧ j2 ≤ j ∧ i2 ≤ j2 + 1 ∧ scanDown (fun x => ltInt dk[a]! x) dk i2 j2 = scanDown (fun x => ltInt dk[a]! x) dk i2 j ∧ Rw N n₀ b o w dk wx) (fun v _ => (nat v).toNat)
          case atStart => exact ⟨j, rfl, Nat.le_refl _, by omega, rfl, HR2.out⟩
          case round =>
            obtain ⟨j2, rfl, h1, h2, hs, hr⟩ := hrel
            obtain ⟨G, HG, hcw, hfw⟩ := hr.opn
            have HS : Hid (scanDown (fun x => ltInt dk[a]! x) dk i2 j2 = scanDown (fun x => ltInt dk[a]! x) dk i2 j ∧ Rw N n₀ b o w dk wr) := ⟨hs, hr⟩
            clear hs hr HR2
            by_cases hg : i2 ≤ j2
            · have hgz : (i2 : Int) ≤ (j2 : Int) := by omega
              go_wp2_with fail
              go_big_quiet (first | (go_at_call 38; refine Calls.quiet_of_same (less_any _ _ _)))
              go_wp2_with fail
              · have hl : ltInt (G a) (G j2) = true := by assumption
                have hP : (fun x => ltInt dk[a]! x) dk[j2]! = true := by
                  show ltInt dk[a]! dk[j2]! = true
                  rw [← HG.out, ← HG.out]; exact hl
                go_roundw
                case rel => exact ⟨j2 - 1, by congr 1; omega, by omega, by omega, by rw [← HS.out.1, down_go (fun x => ltInt dk[a]! x) dk i2 j2 (by omega) hg hP], HS.out.2.drewN nq⟩
                case measure => simp [nat]; omega
              · have hl : ltInt (G a) (G j2) = false := by assumption
                have hP : (fun x => ltInt dk[a]! x) dk[j2]! = false := by
                  show ltInt dk[a]! dk[j2]! = false
                  rw [← HG.out, ← HG.out]; exact hl
                go_meet
                case rel => exact ⟨j2, rfl, by rw [← HS.out.1, down_stop (fun x => ltInt dk[a]! x) dk i2 j2 (Or.inr hP)], h1, h2, fun _ => hP, HS.out.2.drewN nq⟩
            · have hgz : decide ((i2 : Int) ≤ (j2 : Int)) = false := decide_eq_false (by omega)
              go_wp2_with fail
              go_big_quiet (first | (go_at_call 38; refine Calls.quiet_of_same (less_any _ _ _)))
              go_wp2_with fail
              go_meet
              case rel => exact ⟨j2, rfl, by rw [← HS.out.1, down_stop (fun x => ltInt dk[a]! x) dk i2 j2 (Or.inl hg)], h1, h2, fun h => absurd h hg, HS.out.2.drewN nq⟩
        case rest =>
          obtain ⟨j2, rfl, hv1, hv2, hv3, hv4, hr⟩ := hcut
          have HV : Hid (scanDown (fun x => ltInt dk[a]! x) dk i2 j = j2 ∧ (i2 ≤ j2 → (fun x => ltInt dk[a]! x) dk[j2]! = false)) := ⟨hv1, hv4⟩
          have HR3 : Hid (Rw N n₀ b o w dk wc) := hr
          clear hv1 hv4 hr HR2
          by_cases hx : j2 < i2
          · have hxz : (j2 : Int) < (i2 : Int) := by omega
            have HF : Hid (partEqLoop ltInt a i j dk = (i2, dk)) := by
              show partEqLoop ltInt a i j dk = (i2, dk)
              rw [partEqLoop_eq, HU.out.1, HV.out.1, if_pos hx]
            go_wp2
            go_ret
            exact ⟨by rw [← HL.out, HF.out]; rfl, by rw [← HL.out, HF.out]; exact HR3.out⟩
          · have hxz : decide ((j2 : Int) < (i2 : Int)) = false := decide_eq_false (by omega)
            have e1 := HU.out.2 (by omega)
            have e2 := HV.out.2 (by omega)
            have hne : i2 ≠ j2 := by
              intro e
              rw [e] at e1
              simp only at e1 e2
              rw [e2] at e1
              cases e1
            clear e1 e2
            have HF : Hid (partEqLoop ltInt a i j dk = partEqLoop ltInt a (i2 + 1) (j2 - 1) (swp dk i2 j2)) := by
              show partEqLoop ltInt a i j dk = _
              rw [partEqLoop_eq, HU.out.1, HV.out.1, if_neg hx]
            obtain ⟨G, HG, hcw, hfw⟩ := HR3.out.opn
            go_wp2
            go_region
            go_wp2
            go_roundw
            case rel =>
              refine ⟨i2 + 1, j2 - 1, swp dk i2 j2, by go_num, by congr 1; omega, by omega, by omega, by omega, ?_, by rw [← HL.out, HF.out]⟩
              have := HR3.out.swp 1 i2 j2 (by omega) (by omega)
              simp only [← HG.out] at this
              exact this
            case measure => simp [nat]; omega
end Go.Proofs.Ytmooalbbaiccjaa.B
