/-
  The library's sort of a short row, as a walk over the Go text: what comes is in order, and has the same numbers.
-/
import Derived.Test.YtmooalbbaiccjaaSrtIns
import Derived.Test.YtmooalbbaiccjaaSrtHeap
import Derived.Test.YtmooalbbaiccjaaSrtBrk
import Derived.Test.YtmooalbbaiccjaaSrtPar
import Derived.Test.YtmooalbbaiccjaaSrtPrt2
namespace Go.Proofs.Ytmooalbbaiccjaa.B
open Go.ChangeShapes Go.WideShapes Go.ChangeAt Go.RowKit
open Go.Sort hiding Below
set_option linter.unusedVariables false

theorem hint_few (d : Array Int) (a c : Nat) (h8 : 8 ≤ c - a) (h50 : c - a < 50) (hc : c < 50) : hintNo (choosePivot ltInt d a c).2 = 0 ∨ hintNo (choosePivot ltInt d a c).2 = 1 := by
  obtain ⟨⟨j, s⟩, hj⟩ : ∃ r, median ltInt d (a + (c - a) / 4 * 1) (a + (c - a) / 4 * 2) (a + (c - a) / 4 * 3) 0 = r := ⟨_, rfl⟩
  have hm := median_le d (a + (c - a) / 4 * 1) (a + (c - a) / 4 * 2) (a + (c - a) / 4 * 3) 0 50 (by omega) (by omega) (by omega)
  rw [hj] at hm
  simp only at hm
  rw [pivot_eq d a c j s h8 h50 hj]
  simp only
  by_cases h0 : s = 0
  · rw [if_pos h0]; exact .inr rfl
  · rw [if_neg h0, if_neg (by omega)]; exact .inl rfl
theorem piv_any {N n₀ b o : Nat} {w : World} (cap a c : Nat) (d : Array Int) (W : World) (h : Rw N n₀ b o w d W) (h8 : 8 ≤ c - a) (hc : c ≤ N) (hN : N < 50) :
    Calls Try.prog 35 #[.slice (some ⟨b, o, none⟩) N cap, .int .i64 a, .int .i64 c] W fun x W' =>
      ∃ (pv : Nat) (t : Int), x = .returned (.tuple #[.int .i64 (pv : Int), .int .i64 t]) ∧ a ≤ pv ∧ pv < c ∧ (t = 0 ∨ t = 1) ∧ Rw N n₀ b o w d W' := by
  refine (pivot_any cap a c d W h h8 hc hN).mono ?_
  rintro x W' ⟨rfl, hr⟩
  have := choosePivot_holds ltInt d a c (by omega)
  exact ⟨_, _, rfl, this.1, this.2, hint_few d a c h8 (by omega) (by omega), hr⟩

/-- Whatever sorts the part a', c' of dk has sorted the part a, c of d. -/
def Fin' (a c : Nat) (d : Array Int) (a' c' : Nat) (dk : Array Int) : Prop :=
  ∀ R, PermIn a' c' dk R → SortedIn ltInt a' c' R → PermIn a c d R ∧ SortedIn ltInt a c R
theorem Fin'.perm {a c a' c' : Nat} {d dk dj : Array Int} (h : Fin' a c d a' c' dk) (hp : PermIn a' c' dk dj) : Fin' a c d a' c' dj := fun R h1 h2 => h R (permIn_trans _ _ _ _ _ hp h1) h2

set_option maxHeartbeats 8000000 in
set_option maxRecDepth 1000000 in
theorem pdq_any {N n₀ b o : Nat} {w : World} (cap : Nat) (hN : N < 50) : ∀ (k a c limit : Nat) (d : Array Int) (W : World), c - a < k → Rw N n₀ b o w d W → a ≤ c → c ≤ N → limit ≤ 64 → Go.Sort.Below ltInt a c d →
    Calls Try.prog 30 #[.slice (some ⟨b, o, none⟩) N cap, .int .i64 a, .int .i64 c, .int .i64 limit] W fun e W' =>
      e = .returned (.tuple #[]) ∧ ∃ d', PermIn a c d d' ∧ SortedIn ltInt a c d' ∧ Rw N n₀ b o w d' W' := by
  intro k
  induction k with
  | zero => intro a c limit d W h; omega
  | succ k ih =>
  intro a c limit d W hk h hac hc hlim hB
  have IH : Hid _ := ih
  clear ih
  go_enter Try.func30, Try.ntmps30
  go_wp2
  go_loopw [1, 2, 3, 8, 9] (fun v1 v2 v3 v8 v9 wr => ∃ (a' c' l : Nat) (wb wp : Bool) (dk : Array Int), v1 = .int .i64 (a' : Int) ∧ v2 = .int .i64 (c' : Int) ∧ v3 = .int .i64 (l : Int) ∧ v8 = .bool wb ∧ v9 = .bool wp ∧ a ≤ a' ∧ a' ≤ c' ∧ c' ≤ c ∧ l ≤ 64 ∧ Rw N n₀ b o w dk wr ∧ Go.Sort.Below ltInt a' c' dk ∧ Fin' a c d a' c' dk)
    (fun v1 v2 _ _ _ _ => (nat v2 - nat v1).toNat)
  case atStart => exact ⟨a, c, limit, true, true, d, rfl, rfl, rfl, rfl, rfl, Nat.le_refl _, hac, Nat.le_refl _, hlim, h, hB, fun R h1 h2 => ⟨h1, h2⟩⟩
  case round =>
    obtain ⟨a', c', l, wb, wp, dk, rfl, rfl, rfl, rfl, rfl, haa, hac', hcc, hl, hr, hb, hf⟩ := hrel
    have HR : Hid (Rw N n₀ b o w dk wr) := hr
    have HB : Hid (Go.Sort.Below ltInt a' c' dk) := hb
    have HF : Hid (Fin' a c d a' c' dk) := hf
    clear hr hb hf h hB hlim
    by_cases h12 : c' - a' ≤ 12
    · have hz : (c' : Int) - (a' : Int) ≤ 12 := by omega
      go_wp2_with fail
      refine (ins_any cap a' c' dk _ HR.out hac' (by omega) hN).mono ?_
      rintro e W1 ⟨rfl, h1⟩
      have hi := insertionSort_holds (lt := ltInt) swo_ltInt dk a' c' hac' (by rw [HR.out.size]; omega)
      have H1 : Hid (∃ d', PermIn a c d d' ∧ SortedIn ltInt a c d' ∧ Rw N n₀ b o w d' W1) := ⟨_, (HF.out _ hi.1 hi.2).1, (HF.out _ hi.1 hi.2).2, h1⟩
      clear h1 hi HR HB HF
      go_wp2
      (try simp only [Exit.inBlock, Exit.then]); refine bodyPost_ret (results_none rfl _ _ _) rfl ?_
      exact ⟨rfl, H1.out⟩
    · have hz : decide ((c' : Int) - (a' : Int) ≤ 12) = false := decide_eq_false (by omega)
      by_cases hl0 : l = 0
      · subst hl0
        go_wp2_with fail
        refine (heap_any cap a' c' dk _ HR.out (by omega) (by omega) hN).mono ?_
        rintro e W1 ⟨rfl, h1⟩
        have hi := heapSort_holds (lt := ltInt) swo_ltInt dk a' c' hac' (by rw [HR.out.size]; omega)
        have H1 : Hid (∃ d', PermIn a c d d' ∧ SortedIn ltInt a c d' ∧ Rw N n₀ b o w d' W1) := ⟨_, (HF.out _ hi.1 hi.2).1, (HF.out _ hi.1 hi.2).2, h1⟩
        clear h1 hi HR HB HF
        go_wp2
        (try simp only [Exit.inBlock, Exit.then]); refine bodyPost_ret (results_none rfl _ _ _) rfl ?_
        exact ⟨rfl, H1.out⟩
      · have hlz : ((l : Int) == 0) = false := by simp; omega
        go_upto_if 35 with fail
        go_cut [3] (fun v3 wx => ∃ (l2 : Nat) (d2 : Array Int), v3 = .int .i64 (l2 : Int) ∧ l2 ≤ 64 ∧ PermIn a' c' dk d2 ∧ Rw N n₀ b o w d2 wx)
        case first =>
          cases wb with
          | true =>
            go_wp2
            go_meet
            case rel => exact ⟨l, dk, rfl, hl, permIn_refl _ _ _, HR.out⟩
          | false =>
            go_wp2_with fail
            refine (brk_any cap a' c' dk _ HR.out (by omega) (by omega) hN).mono ?_
            rintro e W1 ⟨rfl, d2, hp, h1⟩
            have H1 : Hid (PermIn a' c' dk d2 ∧ Rw N n₀ b o w d2 W1) := ⟨hp, h1⟩
            clear hp h1 HR HB HF
            go_wp2
            go_meet
            case rel => exact ⟨l - 1, d2, by congr 1; omega, by omega, H1.out.1, H1.out.2⟩
        case rest =>
          obtain ⟨l2, d2, rfl, hl2, hp2, hr2⟩ := hcut
          have HB2 : Hid (Go.Sort.Below ltInt a' c' d2) := HB.out.perm (by rw [HR.out.size]; omega) hp2
          have HF2 : Hid (Fin' a c d a' c' d2) := HF.out.perm hp2
          have HR2 : Hid (Rw N n₀ b o w d2 wc) := hr2
          clear hp2 hr2 HB HF HR hl0 hlz
          go_wp2_with fail
          refine (piv_any cap a' c' d2 _ HR2.out (by omega) (by omega) hN).mono ?_
          rintro e W3 ⟨pv, t, rfl, hpv1, hpv2, ht, hr3⟩
          have HR3 : Hid (Rw N n₀ b o w d2 W3) := hr3
          clear hr3 HR2
          have ht2 : (t == 2) = false := by rcases ht with rfl | rfl <;> rfl
          go_upto_region 15 with fail
          go_cut [68] (fun v wx => (∃ q : Bool, v = .bool q) ∧ Rw N n₀ b o w d2 wx)
          case first =>
            rcases ht with rfl | rfl <;> cases wb <;> cases wp <;> go_wp2 <;> go_meet <;> exact ⟨⟨_, rfl⟩, HR3.out⟩
          case rest =>
            obtain ⟨⟨q, rfl⟩, hr4⟩ := hcut
            have HR4 : Hid (Rw N n₀ b o w d2 wc) := hr4
            clear hr4 HR3
            go_upto_if 68 with fail
            go_cut [] (fun wx => Rw N n₀ b o w d2 wx)
            case first =>
              cases q with
              | false =>
                go_wp2
                go_meet
                case rel => exact HR4.out
              | true =>
                go_wp2_with fail
                refine (par_any cap a' c' d2 _ HR4.out (by omega) (by omega) hN).mono ?_
                rintro e W1 ⟨r, rfl, hs, h1⟩
                cases r with
                | false =>
                  have H1 : Hid (Rw N n₀ b o w d2 W1) := h1
                  clear h1 HR4 HB2 HF2 hs
                  go_wp2
                  go_meet
                  case rel => exact H1.out
                | true =>
                  have H1 : Hid (∃ d', PermIn a c d d' ∧ SortedIn ltInt a c d' ∧ Rw N n₀ b o w d' W1) := ⟨d2, (HF2.out _ (permIn_refl _ _ _) (hs rfl)).1, (HF2.out _ (permIn_refl _ _ _) (hs rfl)).2, h1⟩
                  clear h1 HR4 HB2 HF2 hs
                  go_wp2
                  (try simp only [Exit.inBlock, Exit.then]); refine bodyPost_ret (results_none rfl _ _ _) rfl ?_
                  exact ⟨rfl, H1.out⟩
            case rest =>
              have HR5 : Hid (Rw N n₀ b o w d2 wc) := hcut
              clear hcut HR4
              obtain ⟨G, HG, hcw, hfw⟩ := HR5.out.opn
              go_upto_region 17 with fail
              go_cut [87] (fun v wx => ∃ q2 : Bool, v = .bool q2 ∧ (q2 = true → 0 < a' ∧ ltInt d2[a' - 1]! d2[pv]! = false) ∧ Rw N n₀ b o w d2 wx)
              case first =>
                by_cases ha0 : 0 < a'
                · have haz : (0 : Int) < (a' : Int) := by omega
                  go_big_quiet (first | (go_at_call 38; refine Calls.quiet_of_same (less_any _ _ _)))
                  go_wp2
                  go_meet
                  case rel =>
                    refine ⟨_, rfl, fun h => ⟨ha0, ?_⟩, HR5.out.drewN nq⟩
                    rw [← HG.out, ← HG.out]
                    simpa using h
                · have haz : decide ((0 : Int) < (a' : Int)) = false := decide_eq_false (by omega)
                  go_big_quiet (first | (go_at_call 38; refine Calls.quiet_of_same (less_any _ _ _)))
                  go_wp2
                  go_meet
                  case rel => exact ⟨false, rfl, fun h => (by cases h), HR5.out.drewN nq⟩
              case rest =>
                obtain ⟨q2, rfl, hq2, hr6⟩ := hcut
                have HR6 : Hid (Rw N n₀ b o w d2 wc) := hr6
                clear hr6 HR5 hcw hfw HG
                cases q2 with
                | true =>
                  obtain ⟨ha0, hnl⟩ := hq2 rfl
                  go_wp2_with fail
                  refine (parteq_any cap a' c' pv d2 _ HR6.out hpv1 hpv2 (by omega) hN).mono ?_
                  obtain ⟨⟨mid, d4⟩, hx⟩ : ∃ r, partitionEqual ltInt d2 a' c' pv = r := ⟨_, rfl⟩
                  obtain ⟨g1, g2, g3, g4, g5⟩ := round_eq (lt := ltInt) swo_ltInt (partitionEqual_holds _) ha0 hpv1 hpv2 (by rw [HR6.out.size]; omega) HB2.out hnl hx
                  rw [hx]
                  rintro e W5 ⟨rfl, hr7⟩
                  have H7 : Hid (Rw N n₀ b o w d4 W5 ∧ Go.Sort.Below ltInt mid c' d4 ∧ Fin' a c d mid c' d4) := ⟨hr7, g4, fun R h1 h2 => HF2.out R (g5 R h1 h2).1 (g5 R h1 h2).2⟩
                  clear hr7 g3 g4 g5 hx hnl HB2 HF2 HR6 hq2
                  simp only
                  go_wp2
                  go_roundw
                  case rel => exact ⟨mid, c', l2, wb, wp, d4, rfl, rfl, rfl, rfl, rfl, by omega, by omega, by omega, hl2, H7.out.1, H7.out.2.1, H7.out.2.2⟩
                  case measure => simp [nat]; omega
                | false =>
                  clear hq2
                  go_wp2_with fail
                  refine (part_any cap a' c' pv d2 _ HR6.out hpv1 hpv2 (by omega) hN).mono ?_
                  obtain ⟨⟨mid, ap, d4⟩, hx⟩ : ∃ r, partition ltInt d2 a' c' pv = r := ⟨_, rfl⟩
                  obtain ⟨g1, g2, g3, g4, g5, g6, g7⟩ := round_part (lt := ltInt) swo_ltInt (partition_holds _) hpv1 hpv2 (by rw [HR6.out.size]; omega) HB2.out hx
                  rw [hx]
                  rintro e W5 ⟨rfl, hr7⟩
                  have HR7 : Hid (Rw N n₀ b o w d4 W5) := hr7
                  have HP : Hid (Go.Sort.Below ltInt a' mid d4 ∧ Go.Sort.Below ltInt (mid + 1) c' d4 ∧
                    (∀ L, PermIn a' mid d4 L → SortedIn ltInt a' mid L → Go.Sort.Below ltInt (mid + 1) c' L ∧ ∀ R, PermIn (mid + 1) c' L R → SortedIn ltInt (mid + 1) c' R → PermIn a' c' d2 R ∧ SortedIn ltInt a' c' R) ∧
                    (∀ L, PermIn (mid + 1) c' d4 L → SortedIn ltInt (mid + 1) c' L → Go.Sort.Below ltInt a' mid L ∧ ∀ R, PermIn a' mid L R → SortedIn ltInt a' mid R → PermIn a' c' d2 R ∧ SortedIn ltInt a' c' R)) := ⟨g4, g5, g6, g7⟩
                  clear hr7 g3 g4 g5 g6 g7 hx HB2 HR6
                  simp only
                  by_cases hlr : mid - a' < c' - mid
                  · have hlz : (mid : Int) - (a' : Int) < (c' : Int) - (mid : Int) := by omega
                    have HC := IH.out (a') (mid) l2 d4 W5 (by omega) HR7.out (by omega) (by omega) hl2 HP.out.1
                    go_wp2_with fail
                    refine HC.mono ?_
                    clear HC
                    rintro e W6 ⟨rfl, d6, hp6, hs6, hr6⟩
                    have H6 : Hid (Rw N n₀ b o w d6 W6 ∧ Go.Sort.Below ltInt (mid + 1) (c') d6 ∧ Fin' a c d (mid + 1) (c') d6) := ⟨hr6, (HP.out.2.2.1 d6 hp6 hs6).1, fun R h1 h2 => HF2.out R (((HP.out.2.2.1 d6 hp6 hs6).2 R h1 h2).1) (((HP.out.2.2.1 d6 hp6 hs6).2 R h1 h2).2)⟩
                    clear hp6 hs6 hr6 HR7 HP HF2
                    go_wp2
                    go_roundw
                    case rel => exact ⟨mid + 1, c', l2, _, ap, d6, by go_num, by go_num, rfl, rfl, rfl, by omega, by omega, by omega, hl2, H6.out.1, H6.out.2.1, H6.out.2.2⟩
                    case measure => simp [nat]; omega
                  · have hlz : decide ((mid : Int) - (a' : Int) < (c' : Int) - (mid : Int)) = false := decide_eq_false (by omega)
                    have HC := IH.out (mid + 1) (c') l2 d4 W5 (by omega) HR7.out (by omega) (by omega) hl2 HP.out.2.1
                    rw [show ((mid + 1 : Nat) : Int) = (mid : Int) + 1 from rfl] at HC
                    go_wp2_with fail
                    refine HC.mono ?_
                    clear HC
                    rintro e W6 ⟨rfl, d6, hp6, hs6, hr6⟩
                    have H6 : Hid (Rw N n₀ b o w d6 W6 ∧ Go.Sort.Below ltInt (a') (mid) d6 ∧ Fin' a c d (a') (mid) d6) := ⟨hr6, (HP.out.2.2.2 d6 hp6 hs6).1, fun R h1 h2 => HF2.out R (((HP.out.2.2.2 d6 hp6 hs6).2 R h1 h2).1) (((HP.out.2.2.2 d6 hp6 hs6).2 R h1 h2).2)⟩
                    clear hp6 hs6 hr6 HR7 HP HF2
                    go_wp2
                    go_roundw
                    case rel => exact ⟨a', mid, l2, _, ap, d6, by go_num, by go_num, rfl, rfl, rfl, by omega, by omega, by omega, hl2, H6.out.1, H6.out.2.1, H6.out.2.2⟩
                    case measure => simp [nat]; omega

set_option maxHeartbeats 4000000 in
theorem sort_any {N n₀ b o : Nat} {w : World} (cap : Nat) (d : Array Int) (W : World) (h : Rw N n₀ b o w d W) (hN : N < 50) :
    Calls Try.prog 27 #[.slice (some ⟨b, o, none⟩) N cap] W fun e W' =>
      e = .returned (.tuple #[]) ∧ ∃ d', PermIn 0 N d d' ∧ SortedIn ltInt 0 N d' ∧ Rw N n₀ b o w d' W' := by
  have hw : IntKind.u64.wrap (N : Int) = N := by
    show (N : Int) % 18446744073709551616 = N
    omega
  have hl := len_any (N : Int) (by omega) (by omega) W
  rw [Int.toNat_natCast] at hl
  have hb := bitLen_le N (by omega)
  have hp := pdq_any cap hN (N + 1) 0 N (Lib.bitLen N) d W (by omega) h (Nat.zero_le _) (Nat.le_refl _) (by omega) (.inl rfl)
  have HP : Hid _ := hp
  clear hp
  go_enter Try.func27, Try.ntmps27
  go_wp2_with fail
  refine hl.mono ?_
  clear hl
  rintro e W1 ⟨rfl, rfl⟩
  go_wp2_with fail
  refine Calls.mono HP.out ?_
  clear HP
  rintro e W2 ⟨rfl, h2⟩
  have H2 : Hid _ := h2
  clear h2
  go_wp2
  go_end0
  exact ⟨rfl, H2.out⟩
end Go.Proofs.Ytmooalbbaiccjaa.B
