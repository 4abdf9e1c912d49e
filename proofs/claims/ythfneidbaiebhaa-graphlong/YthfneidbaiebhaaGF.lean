/-
  A filter's blocks are the document's, each reached place in one of them: the walk of the statement GraphBlocks, over what its callees answer.
-/
import Derived.Test.YthfneidbaiebhaaGE
namespace Go.Proofs.Ythfneidbaiebhaa.M
theorem inK_le (l : List I) (m j : Nat) : inK l m j ≤ m := by
  unfold inK
  have h1 := List.length_filter_le (fun f => decide (f ≤ j) && decide (j ≤ toOf l f)) ((leads l).take m)
  rw [List.length_take] at h1
  omega
end Go.Proofs.Ythfneidbaiebhaa.M
namespace Go.Proofs.Ythfneidbaiebhaa.B
open Go.ChangeShapes Go.WideShapes Go.ChangeAt Go.RowKit
open Go.Sort hiding Below
set_option linter.unusedVariables false

set_option maxHeartbeats 6400000 in
set_option maxRecDepth 1000000 in
theorem blocks_good (b o n cap : Nat) (l : List M.I) (hln : l.length = n) (hn : n ≤ 200) (ok : ∀ i ∈ l, M.okI i) (hr : M.right l) (w : World) (hl : Ly w b o l)
    (hAw : ∀ W, Awake W)
    (hBl : ∀ W, Ly W b o l → Calls Try.prog 20 #[.slice (some ⟨b, o, none⟩) n cap] W fun e w' => ∃ g c, e = .returned (.tuple #[.slice (some ⟨g, 0, none⟩) (M.leads l).length c, .int .i64 0]) ∧ (∀ j, j < (M.leads l).length → BkOk w' g w'.heap.size j (M.blk l (lf l j))) ∧ g < w'.heap.size ∧ Below W.heap.size W w')
    (hRt : ∀ W, Ly W b o l → Calls Try.prog 16 #[.slice (some ⟨b, o, none⟩) n cap] W fun e w' => e = .returned (.bool true) ∧ Below W.heap.size W w') :
    Calls Try.prog 4 #[.slice (some ⟨b, o, none⟩) n cap] w fun e w' => e = .returned (.bool true) ∧ Below w.heap.size w w' := by
  obtain ⟨i0, hi0, hz0, hz1, hz2⟩ := info_parts infoi
  have hd : decide (200 < (n : Int)) = false := decide_eq_false (by omega)
  have h0 : 0 < n := by rw [← hln]; exact ((M.right_iff l).1 hr).1.1
  have HB := hid (Below.refl w.heap.size w)
  have HRb := hid (fun W (h : Ly W b o l) => rblocks_any b o n cap l hln (by omega) ok hr W h)
  have HRR := hid (fun W (h : Ly W b o l) => rreached_any b o n cap l hln h0 (by omega) ok W h)
  obtain ⟨m, hm⟩ : ∃ m, (M.leads l).length = m := ⟨_, rfl⟩
  have hmn : m ≤ n := by rw [← hm, M.leads_len, hln]; exact numb_le l n
  rw [hm] at hBl HRb
  have HAw := hid hAw
  have HBl := hid hBl
  have HRt := hid hRt
  have HH := hid (And.intro hln (And.intro ok (And.intro hl (And.intro hr hm))))
  clear hAw hBl hRt hln ok hl hr hm
  go_enter Try.func4, Try.ntmps4
  go_wp2_with fail
  refine (HAw.out _).mono ?_
  rintro e w1 ⟨rfl, hb⟩
  replace HB := stp HB hb
  clear hb
  go_wp2_with fail
  refine (HBl.out _ (HH.out.2.2.1.below HB.out)).mono ?_
  rintro e w2 ⟨gb, cb, rfl, hx, hgb, hb⟩
  replace HB := stp HB hb
  have HX := hid (And.intro hx hgb)
  clear hb hx hgb
  go_wp2_with fail
  refine (HRt.out _ (HH.out.2.2.1.below HB.out)).mono ?_
  rintro e w3 ⟨rfl, hb⟩
  replace HB := stp HB hb
  replace HX := hid (show (∀ j, j < m → BkOk w3 gb w3.heap.size j (M.blk l (lf l j))) ∧ gb < w3.heap.size from ⟨fun j hj => by
    obtain ⟨x1, x2, x3, ax, cx, x4, x5, x6⟩ := (HX.out.1 j hj).far hb HX.out.2 (Nat.le_refl _)
    exact ⟨x1, x2, x3, ax, cx, x4, x5, fun A hA => ⟨Nat.lt_of_lt_of_le (x6 A hA).1 hb.size, (x6 A hA).2⟩⟩, Nat.lt_of_lt_of_le HX.out.2 hb.size⟩)
  clear hb
  go_wp2_with fail
  refine (HRb.out _ (HH.out.2.2.1.below HB.out)).mono ?_
  rintro e w4 ⟨gw, cw, rfl, hy, hgw, hb, _⟩
  replace HB := stp HB hb
  replace HX := hid (show (∀ j, j < m → BkOk w4 gb w4.heap.size j (M.blk l (lf l j))) ∧ gb < w4.heap.size ∧ (∀ j, j < m → BkOk w4 gw w4.heap.size j (M.blk l (lf l j))) ∧ gw < w4.heap.size from ⟨fun j hj => by
    obtain ⟨x1, x2, x3, ax, cx, x4, x5, x6⟩ := (HX.out.1 j hj).far hb HX.out.2 (Nat.le_refl _)
    exact ⟨x1, x2, x3, ax, cx, x4, x5, fun A hA => ⟨Nat.lt_of_lt_of_le (x6 A hA).1 hb.size, (x6 A hA).2⟩⟩, Nat.lt_of_lt_of_le HX.out.2 hb.size, hy, hgw⟩)
  clear hb hy hgw
  have hmm : ((m : Int) != (m : Int)) = false := by simp
  go_wp2_with (at_make; refine wpList_make_full _ rfl _ _ 24 rfl w4.heap.size 3 i0 (.int .i64 0) 1 Try.underlying24 hi0 hz0 hz1 .i64 .i64 n n n rfl rfl rfl rfl ?c1 ?c2 (Nat.le_refl _) ?_)
  case c1 => rw [hz2]; omega
  case c2 => unfold maxLen; omega
  intro wm hown hgrow
  have hbm : Below w4.heap.size w4 wm := (Below.refl _ _).grown hgrow (Nat.le_refl _) (by intro k hk; cases hk)
  have hR0 : Row wm w4.heap.size n (fun j => .int .i64 ((M.inK l 0 j : Nat) : Int)) := (Row.of_own hown (fun j hj => made_get (.int .i64 0) n j hj) (hown.lt _ rfl).2).congr fun j _ => by rw [M.inK_zero]; rfl
  have hw4 : w.heap.size ≤ w4.heap.size := HB.out.size
  have HM := hid (And.intro hR0 hbm)
  clear hown hgrow hbm hR0
  go_wp2
  go_loopw [50] (fun iv wr => ∃ i : Nat, i ≤ m ∧ iv = .int .i64 i ∧ Hid (Row wr w4.heap.size n (fun j => .int .i64 ((M.inK l i j : Nat) : Int)) ∧ Below w4.heap.size w4 wr)) (fun iv _ => m - (intOf iv).toNat)
  case atStart => exact ⟨0, Nat.zero_le _, rfl, HM.out⟩
  case round =>
    clear HM
    obtain ⟨i, him, rfl, HR⟩ := hrel
    by_cases hil : i < m
    · have i3 : (i : Int) < (m : Int) := by omega
      obtain ⟨x1, x2, _, a1, c1, x4, x5, x6⟩ := (HX.out.1 i hil).far HR.out.2 HX.out.2.1 (Nat.le_refl _)
      obtain ⟨y1, y2, _, a2, c2, y4, y5, y6⟩ := (HX.out.2.2.1 i hil).far HR.out.2 HX.out.2.2.2 (Nat.le_refl _)
      have hiL : i < (M.leads l).length := by rw [HH.out.2.2.2.2]; exact hil
      obtain ⟨f, hf⟩ : ∃ f, lf l i = f := ⟨_, rfl⟩
      have hfm := M.leads_mem.1 (List.getElem_mem hiL)
      rw [← lf_eq hiL, hf] at hfm
      obtain ⟨t, ht⟩ : ∃ t, M.toOf l f = t := ⟨_, rfl⟩
      obtain ⟨ft, htl, _, _⟩ := M.toOf_spec HH.out.2.2.2.1 hfm.1
      rw [ht] at ft htl
      rw [HH.out.1] at htl
      obtain ⟨js, hjs⟩ : ∃ js, (M.blk l f).n = js := ⟨_, rfl⟩
      have hf1 : (M.blk l f).f = f := rfl
      have hf2 : (M.blk l f).t = t := ht
      rw [hf, hf1] at x1 y1
      rw [hf, hf2] at x2 y2
      rw [hf, hjs] at x4 x5 y4 y5
      have hjl : js.length ≤ 100000 := by
        have : js.length ≤ 2 := by rw [← hjs]; show ((M.beh _ _).map _).length ≤ 2; rw [List.length_map]; exact M.beh_len _ _
        omega
      have HS := hid (fun d os => (same_ints a1 a2 js js js.length js.length c1 c2 rfl rfl hjl hjl (grow (redrawn wr d) os) (x5.below (below_regrown wr d os)) (y5.below (below_regrown wr d os))).regrown_of)
      rw [decide_eq_true rfl] at HS
      have HK := hid (show ∀ j, M.inK l (i + 1) j = M.inK l i j + (if f ≤ j ∧ j < t + 1 then 1 else 0) by
        intro j
        rw [M.inK_succ hiL, ← lf_eq hiL, hf, ht]
        congr 1
        by_cases e : f ≤ j ∧ j ≤ t
        · rw [if_pos e, if_pos ⟨e.1, by omega⟩]
        · rw [if_neg e, if_neg (fun h => e ⟨h.1, by omega⟩)])
      obtain ⟨q, hq⟩ : ∃ q, js.length = q := ⟨_, rfl⟩
      rw [hq] at x4 y4 HS
      clear hf hjs hf1 hf2 hfm hiL hq hjl x5 y5 x6 y6 ht
      have k1 := cell_regrown x1
      have k2 := cell_regrown x2
      have k3 := cell_regrown x4
      have k4 := cell_regrown y1
      have k5 := cell_regrown y2
      have k6 := cell_regrown y4
      have hff : ((f : Int) != (f : Int)) = false := by simp
      have htt : ((t : Int) != (t : Int)) = false := by simp
      go_wp2_with fail
      refine wp_region_quiet_below (by kernel_rfl) (by kernel_rfl) ?_
      repeat (quiet_step (exact HS.out _ _))
      refine wpQuiet_nil ?_
      intro w5 hw5
      have hb : Below wr.heap.size wr w5 := by obtain ⟨⟨d, os⟩, rfl⟩ := hw5; exact below_regrown _ _ _
      have HI := hid (show Row w5 w4.heap.size n (fun j => .int .i64 ((M.inK l i j + (if f ≤ j ∧ j < f then 1 else 0) : Nat) : Int)) ∧ Below w4.heap.size w4 w5 from
        ⟨(HR.out.1.below hb).congr fun j _ => by rw [if_neg (by omega)]; simp, HR.out.2.trans (hb.mono HR.out.2.size)⟩)
      have HC := hid (show ∀ W, Below w4.heap.size w4 W → W.cell? ⟨gb, i * 3 + 1, none⟩ = some (.int .i64 (t : Int)) from fun W hW => (hW.cell (p := ⟨gb, i * 3 + 1, none⟩) HX.out.2.1).trans ((HR.out.2.cell (p := ⟨gb, i * 3 + 1, none⟩) HX.out.2.1).symm.trans x2))
      have z1 : w5.cell? ⟨gb, i * 3, none⟩ = some (.int .i64 (f : Int)) := (hb.cell (p := ⟨gb, i * 3, none⟩) (Nat.lt_of_lt_of_le HX.out.2.1 HR.out.2.size)).trans x1
      clear hb hw5 k1 k2 k3 k4 k5 k6 HS HR x1 x2 x4 y1 y2 y4
      go_wp2
      clear z1
      go_loopw [8] (fun pv wr => ∃ p : Nat, f ≤ p ∧ p ≤ t + 1 ∧ pv = .int .i64 p ∧ Hid (Row wr w4.heap.size n (fun j => .int .i64 ((M.inK l i j + (if f ≤ j ∧ j < p then 1 else 0) : Nat) : Int)) ∧ Below w4.heap.size w4 wr)) (fun pv _ => (t + 1) - (intOf pv).toNat)
      case atStart => exact ⟨f, Nat.le_refl _, by omega, rfl, HI.out⟩
      case round =>
        clear HI
        obtain ⟨p, hp1, hp2, rfl, HP⟩ := hrel
        have ct := HC.out _ HP.out.2
        by_cases hpt : p ≤ t
        · have i5 : (p : Int) ≤ (t : Int) := by omega
          have hpn : p < n := by omega
          have i6 : (p : Int) < (n : Int) := by omega
          have d1 : decide (p ≤ t) = true := decide_eq_true hpt
          have cp := HP.out.1.cell p hpn
          have fp := HP.out.1.froz p hpn
          simp only [if_neg (show ¬ (f ≤ p ∧ p < p) by omega), Nat.add_zero] at cp
          obtain ⟨v, hv⟩ : ∃ v, M.inK l i p = v := ⟨_, rfl⟩
          rw [hv] at cp
          have hvb : v ≤ 200 := by rw [← hv]; have := M.inK_le l i p; omega
          have HV := hid hv
          clear hv
          go_wp2
          go_roundw
          case rel => exact ⟨p + 1, by omega, by omega, by go_num, (HP.out.1.set p hpn _).congr (fun j hj => by
            by_cases e : j = p
            · subst e; rw [if_pos rfl, if_pos ⟨hp1, by omega⟩, HV.out]; simp
            · rw [if_neg e]
              by_cases e2 : f ≤ j ∧ j < p
              · rw [if_pos e2, if_pos ⟨e2.1, by omega⟩]
              · rw [if_neg e2, if_neg (fun h => e2 ⟨h.1, by omega⟩)]), HP.out.2.setCell (Nat.le_refl _) _⟩
          case measure => simp [intOf]; omega
        · obtain rfl : p = t + 1 := by omega
          have d1 : decide (t + 1 ≤ t) = false := decide_eq_false (by omega)
          have HF := hid (show Row wr w4.heap.size n (fun j => .int .i64 ((M.inK l (i + 1) j : Nat) : Int)) from HP.out.1.congr fun j _ => by rw [HK.out j])
          go_wp2
          go_roundw
          case rel => exact ⟨i + 1, by omega, by go_num, HF.out, HP.out.2⟩
          case measure => simp [intOf]; omega
    · obtain rfl : i = m := by omega
      have HBn := hid (show Below w.heap.size w wr from HB.out.trans (HR.out.2.mono hw4))
      have HRi := hid (show Row wr w4.heap.size n (fun j => .int .i64 ((if M.rch l j = true then 1 else 0 : Nat) : Int)) from HR.out.1.congr fun j _ => by rw [← HH.out.2.2.2.2, M.inK_all HH.out.2.2.2.1 HH.out.2.1])
      clear HR HB HX
      go_wp2_with fail
      refine (HRR.out _ (HH.out.2.2.1.below HBn.out)).mono ?_
      rintro e w6 ⟨g3, rfl, hx3, hb, _⟩
      replace HBn := stp HBn hb
      replace HRi := hid (HRi.out.below hb)
      have HX3 := hid hx3
      clear hb hx3
      go_wp2
      go_loopw [116] (fun i wr => ∃ k q : Nat, k ≤ n ∧ i = .int .i64 k ∧ wr = w6.drewN q) (fun i _ => n - (intOf i).toNat)
      case atStart => exact ⟨0, 0, Nat.zero_le _, rfl, rfl⟩
      case round =>
        obtain ⟨p, q, hp, rfl, rfl⟩ := hrel
        by_cases hlt : p < n
        · have i1 : (p : Int) < (n : Int) := by omega
          have e1 := HX3.out.cell p hlt
          have e2 := HRi.out.cell p hlt
          cases hc : M.rch l p with
          | true =>
            simp only [hc] at e1 e2
            have e2' : w6.cell? ⟨w4.heap.size, p, none⟩ = some (.int .i64 1) := by rw [e2]; rfl
            clear e2 hc
            go_wp2
            go_quiet (fail)
            go_wp2
            go_roundw
            case rel => exact ⟨p + 1, _, by omega, by go_num, rfl⟩
            case measure => simp [intOf]; omega
          | false =>
            simp only [hc] at e1 e2
            have e2' : w6.cell? ⟨w4.heap.size, p, none⟩ = some (.int .i64 0) := by rw [e2]; rfl
            clear e2 hc
            go_wp2
            go_quiet (fail)
            go_wp2
            go_roundw
            case rel => exact ⟨p + 1, _, by omega, by go_num, rfl⟩
            case measure => simp [intOf]; omega
        · obtain rfl : p = n := by omega
          go_wp2
          go_ret
          exact ⟨rfl, bdrew HBn.out _⟩
end Go.Proofs.Ythfneidbaiebhaa.B
