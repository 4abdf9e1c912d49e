/-
  Behind a place, and behind a block, are later ones alone, rising; blocks don't meet; one that nothing is behind ends by a return: the walk of the statement GraphRises, of a filter.
-/
import Derived.Test.YthfneidbaiebhaaGC
import Derived.Test.YthfneidbaiebhaaGD
namespace Go.Proofs.Ythfneidbaiebhaa.M
/-- the last one of the first q, or what was there ahead of them -/
def prev (k : Nat) (js : List Nat) (q : Nat) : Nat := if q = 0 then k else js.getD (q - 1) 0
theorem prev_zero (k : Nat) (js : List Nat) : prev k js 0 = k := rfl
theorem prev_succ (k : Nat) {js : List Nat} {q : Nat} (h : q < js.length) : prev k js (q + 1) = js[q] := by
  unfold prev
  rw [if_neg (by omega), Nat.add_sub_cancel, List.getD_eq_getElem?_getD, List.getElem?_eq_getElem h]; rfl
theorem prev_lt {k : Nat} {js : List Nat} {q : Nat} (hs : js.Pairwise (· < ·)) (hg : ∀ y ∈ js, k < y) (h : q < js.length) : prev k js q < js[q] := by
  cases q with
  | zero => rw [prev_zero]; exact hg _ (List.getElem_mem h)
  | succ q =>
    rw [prev_succ k (show q < js.length by omega)]
    exact List.pairwise_iff_getElem.1 hs q (q + 1) (by omega) h (by omega)
end Go.Proofs.Ythfneidbaiebhaa.M
namespace Go.Proofs.Ythfneidbaiebhaa.B
open Go.ChangeShapes Go.WideShapes Go.ChangeAt Go.RowKit
open Go.Sort hiding Below
set_option linter.unusedVariables false

set_option maxHeartbeats 6400000 in
set_option maxRecDepth 1000000 in
theorem rises_good (b o n cap : Nat) (l : List M.I) (hln : l.length = n) (hn : n ≤ 200) (ok : ∀ i ∈ l, M.okI i) (hr : M.right l) (w : World) (hl : Ly w b o l) :
    Calls Try.prog 7 #[.slice (some ⟨b, o, none⟩) n cap] w fun e w' => e = .returned (.bool true) ∧ Below w.heap.size w w' := by
  have hd : decide (200 < (n : Int)) = false := decide_eq_false (by omega)
  have HB := hid (Below.refl w.heap.size w)
  have HRt := hid (fun W (h : Ly W b o l) => rright8 (some ⟨b, o, none⟩) n cap l hln (by omega) ok W h.lies true (M.right_of.2 hr))
  have HBl := hid (fun W (h : Ly W b o l) => gblocks_any b o n cap l hln (by omega) ok hr W h)
  have h0 : 0 < n := by rw [← hln]; exact ((M.right_iff l).1 hr).1.1
  obtain ⟨m, hm⟩ : ∃ m, (M.leads l).length = m := ⟨_, rfl⟩
  have hmn : m ≤ n := by rw [← hm, M.leads_len, hln]; exact numb_le l n
  have hm0 : 0 < m := by
    have := M.numb_lt l (show 0 < n from h0) (M.lead_zero l)
    rw [← hm, M.leads_len, hln]; omega
  rw [hm] at HBl
  have HH := hid (And.intro hln (And.intro ok (And.intro hl (And.intro hr hm))))
  have hbl : b < w.heap.size := hl.1
  clear hln ok hl hr hm
  go_enter Try.func7, Try.ntmps7
  go_wp2_with fail
  refine (awake_any _).mono ?_
  rintro e w1 ⟨rfl, hb⟩
  replace HB := stp HB hb
  clear hb
  go_wp2_with fail
  refine (HRt.out _ (HH.out.2.2.1.below HB.out)).mono ?_
  rintro e w2 ⟨rfl, hb⟩
  replace HB := stp HB hb
  clear hb HRt
  go_wp2
  go_loopw [29] (fun i wr => ∃ k : Nat, k ≤ n ∧ i = .int .i64 k ∧ Hid (Below w.heap.size w wr)) (fun i _ => n - (intOf i).toNat)
  case atStart => exact ⟨0, Nat.zero_le _, rfl, HB.out⟩
  case round =>
    clear HB
    obtain ⟨k, hk, rfl, HB⟩ := hrel
    by_cases hlt : k < n
    · have i2 : (k : Int) < (n : Int) := by omega
      have hkl : k < l.length := by rw [HH.out.1]; exact hlt
      obtain ⟨js, hjs⟩ : ∃ js, M.beh k (M.at0 l k) = js := ⟨_, rfl⟩
      have HN := hid (fun W h => gnext_ly b o n cap k l HH.out.1 (by omega) hkl HH.out.2.1 HH.out.2.2.2.1 W h js hjs)
      have HJ := hid (show js.Pairwise (· < ·) ∧ ∀ y ∈ js, k < y from ⟨by rw [← hjs]; exact M.beh_sorted (M.at0_ok HH.out.2.1 k), fun y hy => by rw [← hjs] at hy; exact M.beh_gt hy⟩)
      have hlen : js.length ≤ 2 := by rw [← hjs]; exact M.beh_len _ _
      clear hjs
      obtain ⟨q0, hq0⟩ : ∃ q0, js.length = q0 := ⟨_, rfl⟩
      rw [hq0] at HN hlen
      have HQ0 := hid hq0
      clear hq0
      go_wp2_with fail
      refine (HN.out _ (HH.out.2.2.1.below HB.out)).mono ?_
      rintro e w3 ⟨a, ca, rfl, hnx, hfr, hb⟩
      replace HB := stp HB hb
      have HX := hid hnx
      clear hb hnx hfr HN
      go_wp2
      go_loopw [4, 37] (fun pv iv wr => ∃ q : Nat, q ≤ q0 ∧ iv = .int .i64 q ∧ pv = .int .i64 ((M.prev k js q : Nat) : Int) ∧ wr = w3) (fun _ iv _ => q0 - (intOf iv).toNat)
      case atStart => exact ⟨0, Nat.zero_le _, rfl, rfl, rfl⟩
      case round =>
        obtain ⟨q, hq, rfl, rfl, rfl⟩ := hrel
        by_cases hq2 : q < q0
        · have i3 : (q : Int) < (q0 : Int) := by omega
          have hqj : q < js.length := by rw [HQ0.out]; exact hq2
          obtain ⟨g', rfl⟩ : ∃ g', a = some ⟨g', 0, none⟩ := by
            rcases HX.out with h | ⟨g', e, _⟩
            · rw [h] at hqj; simp at hqj
            · exact ⟨g', e⟩
          have cy := nx_get HX.out q hqj
          have hpl := M.prev_lt HJ.out.1 HJ.out.2 hqj
          have HP := hid (M.prev_succ k hqj)
          obtain ⟨y, hy⟩ : ∃ y, js[q] = y := ⟨_, rfl⟩
          obtain ⟨p, hp⟩ : ∃ p, M.prev k js q = p := ⟨_, rfl⟩
          rw [hy] at cy HP hpl
          rw [hp] at hpl ⊢
          have d1 : decide (y ≤ p) = false := decide_eq_false (by omega)
          clear hy hp hqj
          go_wp2
          go_roundw
          case rel => exact ⟨q + 1, by omega, by go_num, by rw [HP.out], trivial⟩
          case measure => simp [intOf]; omega
        · obtain rfl : q = q0 := by omega
          go_wp2
          go_roundw
          case rel => exact ⟨k + 1, by omega, by go_num, HB.out⟩
          case measure => simp [intOf]; omega
    · obtain rfl : k = n := by omega
      go_wp2_with fail
      refine (HBl.out _ (HH.out.2.2.1.below HB.out)).mono ?_
      rintro e w4 ⟨g, cb, rfl, hx, hg, hb⟩
      replace HB := stp HB hb
      have HX := hid (And.intro hx hg)
      clear hb hx hg HBl
      go_wp2
      go_loopw [54] (fun iv wr => ∃ i : Nat, i ≤ m ∧ iv = .int .i64 i ∧ Hid (Below w4.heap.size w4 wr)) (fun iv _ => m - (intOf iv).toNat)
      case atStart => exact ⟨0, Nat.zero_le _, rfl, Below.refl _ _⟩
      case round =>
        obtain ⟨i, him, rfl, HR⟩ := hrel
        obtain ⟨wo, hwo⟩ : ∃ wo, wo = wr := ⟨_, rfl⟩
        subst hwo
        by_cases hil : i < m
        · have i3 : (i : Int) < (m : Int) := by omega
          obtain ⟨x1, x2, _, a1, c1, x4, x5, x6⟩ := (HX.out.1 i hil).far HR.out HX.out.2 (Nat.le_refl _)
          have hiL : i < (M.leads l).length := by rw [HH.out.2.2.2.2]; exact hil
          obtain ⟨f, hf⟩ : ∃ f, lf l i = f := ⟨_, rfl⟩
          have hfm := M.leads_mem.1 (List.getElem_mem hiL)
          have hnb := M.leads_numb hiL
          rw [← lf_eq hiL, hf] at hfm hnb
          obtain ⟨t, ht⟩ : ∃ t, M.toOf l f = t := ⟨_, rfl⟩
          obtain ⟨ft, htl, _, _⟩ := M.toOf_spec HH.out.2.2.2.1 hfm.1
          rw [ht] at ft htl
          have htL := htl
          rw [HH.out.1] at htl
          obtain ⟨js, hjs⟩ : ∃ js, (M.blk l f).n = js := ⟨_, rfl⟩
          have hf1 : (M.blk l f).f = f := rfl
          have hf2 : (M.blk l f).t = t := ht
          rw [hf, hf1] at x1
          rw [hf, hf2] at x2
          rw [hf, hjs] at x4 x5
          have hjl : js.length ≤ 2 := by rw [← hjs]; show ((M.beh _ _).map _).length ≤ 2; rw [List.length_map]; exact M.beh_len _ _
          have HJ := hid (show js.Pairwise (· < ·) ∧ (∀ y ∈ js, i < y) ∧ ∀ y ∈ js, y < m from
            ⟨by rw [← hjs]; exact M.blk_sorted HH.out.2.2.2.1 HH.out.2.1 hfm.1 hfm.2, fun y hy => by rw [← hjs] at hy; have := (M.blk_gt HH.out.2.2.2.1 HH.out.2.1 hfm.1 hfm.2 hy).1; omega, fun y hy => by rw [← hjs] at hy; have := (M.blk_gt HH.out.2.2.2.1 HH.out.2.1 hfm.1 hfm.2 hy).2; rw [HH.out.2.2.2.2] at this; exact this⟩)
          obtain ⟨x, hx⟩ : ∃ x, l[t] = x := ⟨_, rfl⟩
          have h0x : M.at0 l t = x := by rw [M.at0_eq htL]; exact hx
          have HNil := hid (show js = [] ↔ M.kind x.1 = 13 ∨ M.kind x.1 = 14 by
            rw [← M.beh_nil (i := t), ← h0x, ← hjs, ← ht]
            show (M.beh _ _).map _ = [] ↔ _
            rw [List.map_eq_nil_iff])
          have hok : M.okI x := hx ▸ HH.out.2.1 _ (List.getElem_mem htL)
          have hBw : Below w.heap.size w wo := HB.out.trans (HR.out.mono HB.out.size)
          have HQ := hid (fun q => (by rw [← hx]; exact (HH.out.2.2.1.below (bdrew hBw q)).2 t htL : LiesAt (wo.drewN q) b o t x))
          have HPv := hid (show ∀ p, i = p + 1 → ∃ t', wo.cell? ⟨g, p * 3 + 1, none⟩ = some (.int .i64 ((t' : Nat) : Int)) ∧ t' < f from fun p hp => by
            have hpm : p < m := by omega
            obtain ⟨_, y2, _⟩ := (HX.out.1 p hpm).far HR.out HX.out.2 (Nat.le_refl _)
            refine ⟨_, y2, ?_⟩
            show M.toOf l (lf l p) < f
            have hpL : p < (M.leads l).length := by rw [HH.out.2.2.2.2]; exact hpm
            have hlt2 : lf l p < f := by
              rw [← hf, lf_eq hpL, lf_eq hiL]
              exact List.pairwise_iff_getElem.1 (M.leads_sorted l) p i hpL hiL (by omega)
            exact M.block_apart HH.out.2.2.2.1 hlt2 hfm.1 hfm.2)
          obtain ⟨q0, hq0⟩ : ∃ q0, js.length = q0 := ⟨_, rfl⟩
          rw [hq0] at x4 hjl
          have HQ0 := hid hq0
          have HX5 := hid x5
          have HBw := hid hBw
          have hbk := hid hok.1
          obtain ⟨c, jt, jf, d⟩ := x
          simp only at HNil hbk
          clear hf hjs hf1 hf2 hfm hiL hq0 x5 x6 ht hnb hx h0x hok hBw htL
          go_wp2
          go_loopw [10, 64] (fun pv qv wr => ∃ q : Nat, q ≤ q0 ∧ qv = .int .i64 q ∧ pv = .int .i64 ((M.prev i js q : Nat) : Int) ∧ wr = wo) (fun _ qv _ => q0 - (intOf qv).toNat)
          case atStart => exact ⟨0, Nat.zero_le _, rfl, rfl, rfl⟩
          case round =>
            obtain ⟨q, hq, rfl, rfl, hwo⟩ := hrel
            subst hwo
            by_cases hq2 : q < q0
            · have i5 : (q : Int) < (q0 : Int) := by omega
              have hqj : q < js.length := by rw [HQ0.out]; exact hq2
              obtain ⟨g', rfl⟩ : ∃ g', a1 = some ⟨g', 0, none⟩ := by
                rcases HX5.out with h | ⟨g', e, _⟩
                · rw [h] at hqj; simp at hqj
                · exact ⟨g', e⟩
              have cy := nx_get HX5.out q hqj
              have hpl := M.prev_lt HJ.out.1 HJ.out.2.1 hqj
              have hym := HJ.out.2.2 _ (List.getElem_mem hqj)
              have HP := hid (M.prev_succ i hqj)
              obtain ⟨y, hy⟩ : ∃ y, js[q] = y := ⟨_, rfl⟩
              obtain ⟨p, hp⟩ : ∃ p, M.prev i js q = p := ⟨_, rfl⟩
              rw [hy] at cy HP hpl hym
              rw [hp] at hpl ⊢
              have d1 : decide (y ≤ p) = false := decide_eq_false (by omega)
              have d2 : decide (m ≤ y) = false := decide_eq_false (by omega)
              clear hy hp hqj
              go_wp2
              go_roundw
              case rel => exact ⟨q + 1, by omega, by go_num, by rw [HP.out], trivial⟩
              case measure => simp [intOf]; omega
            · obtain rfl : q = q0 := by omega
              have e1 : decide (t < f) = false := decide_eq_false (by omega)
              have e2 : decide (k ≤ t) = false := decide_eq_false (by omega)
              clear hq2
              have hg := HX.out.2
              have HZ := hid (fun (W : World) (hb : Below wr.heap.size wr W) => (hb.cell (p := ⟨g, i * 3 + 1, none⟩) (Nat.lt_of_lt_of_le hg HR.out.size)).trans x2)
              have HZ4 := hid (fun (W : World) (hb : Below wr.heap.size wr W) => (hb.cell (p := ⟨g, i * 3 + 2, none⟩) (Nat.lt_of_lt_of_le hg HR.out.size)).trans x4)
              cases i with
              | zero =>
                simp only [Nat.zero_mul, Nat.zero_add] at *
                go_wp2
                go_quiet (fail)
                obtain ⟨r0, r1, r2, r3⟩ := HQ.out nq
                simp only at r0 r1 r2 r3
                have z2 : (wr.drewN nq).cell? ⟨g, 1, none⟩ = some (.int .i64 (t : Int)) := x2
                have i8 : (t : Int) < (k : Int) := by omega
                clear e1 e2 x1 x2 x4
                go_wp2_with fail
                refine (rkind_any _ hbk.out.1 hbk.out.2 _).mono ?_
                rintro e w6 ⟨rfl, hb⟩
                have hb6 : Below wr.heap.size wr w6 := (stp (hid (bdrew (Below.refl wr.heap.size wr) nq)) hb).out
                have z4 := HZ4.out _ hb6
                have HR6 := hid (show Below w4.heap.size w4 w6 from HR.out.trans (hb6.mono HR.out.size))
                clear hb hb6 r0 r1 r2 r3 z2
                obtain ⟨v, hv⟩ : ∃ v, M.kind c = v := ⟨_, rfl⟩
                rw [hv] at HNil ⊢
                have cs : (((q : Int) == 0) = true ∧ ((v == 13) = true ∨ (v == 13) = false ∧ (v == 14) = true)) ∨ (((q : Int) == 0) = false ∧ (v == 13) = false ∧ (v == 14) = false) := by
                  by_cases e : q = 0
                  · have hj : js = [] := List.eq_nil_of_length_eq_zero (by rw [HQ0.out]; exact e)
                    left
                    refine ⟨by simpa using e, ?_⟩
                    by_cases e3 : v = 13
                    · left; simpa using e3
                    · right
                      refine ⟨by simpa using e3, ?_⟩
                      rcases HNil.out.1 hj with h | h
                      · exact absurd h e3
                      · simpa using h
                  · right
                    have hj : js ≠ [] := fun h => e (by rw [← HQ0.out, h]; rfl)
                    have := fun h => hj (HNil.out.2 h)
                    refine ⟨by simpa using e, ?_, ?_⟩
                    · rw [beq_eq_false_iff_ne]; exact fun h => this (.inl h)
                    · rw [beq_eq_false_iff_ne]; exact fun h => this (.inr h)
                clear hv HNil HQ0
                rcases cs with ⟨s1, s2 | ⟨s2, s3⟩⟩ | ⟨s1, s2, s3⟩
                all_goals
                  go_wp2
                  go_roundw
                  case rel => exact ⟨0 + 1, by omega, by go_num, HR6.out⟩
                  case measure => simp [intOf]; omega
              | succ p =>
                obtain ⟨t', ct, htf⟩ := HPv.out p rfl
                have e3 : decide (f ≤ t') = false := decide_eq_false (by omega)
                rw [show ((p + 1 : Nat) : Int) = (p : Int) + 1 by omega] at *
                go_wp2
                go_quiet (fail)
                obtain ⟨r0, r1, r2, r3⟩ := HQ.out nq
                simp only at r0 r1 r2 r3
                have z2 : (wr.drewN nq).cell? ⟨g, (p + 1) * 3 + 1, none⟩ = some (.int .i64 (t : Int)) := x2
                have i8 : (t : Int) < (k : Int) := by omega
                clear e1 e2 x1 x2 x4 e3 ct
                go_wp2_with fail
                refine (rkind_any _ hbk.out.1 hbk.out.2 _).mono ?_
                rintro e w6 ⟨rfl, hb⟩
                have hb6 : Below wr.heap.size wr w6 := (stp (hid (bdrew (Below.refl wr.heap.size wr) nq)) hb).out
                have z4 := HZ4.out _ hb6
                have HR6 := hid (show Below w4.heap.size w4 w6 from HR.out.trans (hb6.mono HR.out.size))
                clear hb hb6 r0 r1 r2 r3 z2
                obtain ⟨v, hv⟩ : ∃ v, M.kind c = v := ⟨_, rfl⟩
                rw [hv] at HNil ⊢
                have cs : (((q : Int) == 0) = true ∧ ((v == 13) = true ∨ (v == 13) = false ∧ (v == 14) = true)) ∨ (((q : Int) == 0) = false ∧ (v == 13) = false ∧ (v == 14) = false) := by
                  by_cases e : q = 0
                  · have hj : js = [] := List.eq_nil_of_length_eq_zero (by rw [HQ0.out]; exact e)
                    left
                    refine ⟨by simpa using e, ?_⟩
                    by_cases e3 : v = 13
                    · left; simpa using e3
                    · right
                      refine ⟨by simpa using e3, ?_⟩
                      rcases HNil.out.1 hj with h | h
                      · exact absurd h e3
                      · simpa using h
                  · right
                    have hj : js ≠ [] := fun h => e (by rw [← HQ0.out, h]; rfl)
                    have := fun h => hj (HNil.out.2 h)
                    refine ⟨by simpa using e, ?_, ?_⟩
                    · rw [beq_eq_false_iff_ne]; exact fun h => this (.inl h)
                    · rw [beq_eq_false_iff_ne]; exact fun h => this (.inr h)
                clear hv HNil HQ0
                rcases cs with ⟨s1, s2 | ⟨s2, s3⟩⟩ | ⟨s1, s2, s3⟩
                all_goals
                  go_wp2
                  go_roundw
                  case rel => exact ⟨p + 1 + 1, by omega, by go_num, HR6.out⟩
                  case measure => simp [intOf]; omega
        · obtain rfl : i = m := by omega
          obtain ⟨x1, _⟩ := (HX.out.1 0 hm0).far HR.out HX.out.2 (Nat.le_refl _)
          have hz : lf l 0 = 0 := by
            have h := M.leads_zero (l := l) (by rw [HH.out.1]; exact h0)
            unfold lf
            rw [List.getD_eq_getElem?_getD, h]; rfl
          rw [hz] at x1
          have x1' : wo.cell? ⟨g, 0, none⟩ = some (.int .i64 0) := x1
          have i9 : (0 : Int) < (i : Int) := by omega
          have HBw := hid (HB.out.trans (HR.out.mono HB.out.size))
          clear x1 hz
          go_wp2
          go_ret
          exact ⟨rfl, HBw.out⟩
end Go.Proofs.Ythfneidbaiebhaa.B
