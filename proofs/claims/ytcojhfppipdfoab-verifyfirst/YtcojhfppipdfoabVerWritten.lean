/-
  Which words are written for sure, as a walk over the Go text.
-/
import Derived.Test.YtcojhfppipdfoabVerBits
import Derived.Lib.QuietBelow
namespace Go.Proofs.Ytcojhfppipdfoab.B
open Go.ChangeShapes Go.WideShapes Go.ChangeAt Go.RowKit
open Go.Sort hiding Below
set_option linter.unusedVariables false

set_option maxHeartbeats 1600000 in
set_option maxRecDepth 100000 in
theorem written_any (b o n cap : Nat) (l : List M.I) (hln : l.length = n) (h0 : 0 < n) (hn : n ≤ 65536) (ok : ∀ i ∈ l, M.okI i) (ha : ∀ j, j < l.length → M.wrong l j = false) (w : World) (hl : Ly w b o l) :
    Calls Try.prog 23 #[.slice (some ⟨b, o, none⟩) n cap] w fun e w' => ∃ g, e = .returned (.slice (some ⟨g, 0, none⟩) n n) ∧ Row w' g n (fun j => .int .u16 ((M.wr l j : Nat) : Int)) ∧ Below w.heap.size w w' := by
  obtain ⟨i0, hi, hz0, hz1, hz2⟩ := info_parts info34
  have HH := hid (And.intro hln (And.intro ok (And.intro hl ha)))
  clear hln ok hl ha
  go_enter Try.func23, Try.ntmps23
  go_wp2_with (at_make; refine wpList_make_full _ rfl _ _ 37 rfl w.heap.size 29 i0 (.int .u16 0) 1 Try.underlying37 hi hz0 hz1 .i64 .i64 n n n rfl rfl rfl rfl ?c1 ?c2 (Nat.le_refl _) ?_)
  case c1 => rw [hz2]; omega
  case c2 => unfold maxLen; omega
  intro wm hown hgrow
  have hbm : Below w.heap.size w wm := (Below.refl _ _).grown hgrow (Nat.le_refl _) (by intro k hk; cases hk)
  have HM : Hid (Row wm w.heap.size n (fun _ => .int .u16 0) ∧ Below w.heap.size w wm) := ⟨Row.of_own hown (fun j hj => made_get (.int .u16 0) n j hj) (hown.lt _ rfl).2, hbm⟩
  clear hown hgrow hbm
  go_wp2
  go_loopw [13] (fun i wr => ∃ k : Nat, k ≤ n ∧ i = .int .i64 k ∧ Hid (Row wr w.heap.size n (fun j => .int .u16 (if j < k then 65535 else 0)) ∧ Below w.heap.size w wr)) (fun i _ => n - (intOf i).toNat)
  case atStart => exact ⟨0, Nat.zero_le _, rfl, HM.out.1.congr (fun j _ => by simp), HM.out.2⟩
  case round =>
    clear HM
    obtain ⟨k, hk, rfl, HR⟩ := hrel
    by_cases hlt : k < n
    · have i1 : (k : Int) < (n : Int) := by omega
      have hc := HR.out.1.cell k hlt
      have hf := HR.out.1.froz k hlt
      go_wp2
      go_roundw
      case rel => exact ⟨k + 1, by omega, by go_num, (HR.out.1.set k hlt _).congr (fun j hj => by
        by_cases e : j = k
        · rw [if_pos e, if_pos (by omega)]
        · rw [if_neg e]; by_cases e2 : j < k
          · rw [if_pos e2, if_pos (by omega)]
          · rw [if_neg e2, if_neg (by omega)]), HR.out.2.setCell (Nat.le_refl _) _⟩
      case measure => simp [intOf]; omega
    · obtain rfl : k = n := by omega
      have hc := HR.out.1.cell 0 h0
      have hf := HR.out.1.froz 0 h0
      have i1 : (0 : Int) < (k : Int) := by omega
      go_wp2
      have HQ : Hid (Row (wr.setCell ⟨w.heap.size, 0, none⟩ (.int .u16 0)) w.heap.size k (fun j => .int .u16 ((M.wrK l 0 j : Nat) : Int)) ∧ Below w.heap.size w (wr.setCell ⟨w.heap.size, 0, none⟩ (.int .u16 0))) :=
        ⟨(HR.out.1.set 0 h0 _).congr (fun j hj => by
          rw [M.wrK_zero (by rw [HH.out.1]; exact hj)]
          by_cases e : j = 0
          · rw [if_pos e, if_pos e]; rfl
          · rw [if_neg e, if_neg e, if_pos hj]; rfl), HR.out.2.setCell (Nat.le_refl _) _⟩
      clear HR hc hf i1
      generalize wr.setCell ⟨w.heap.size, 0, none⟩ (.int .u16 0) = wz at *
      go_loopw [24] (fun i wr => ∃ q : Nat, q ≤ k ∧ i = .int .i64 q ∧ Hid (Row wr w.heap.size k (fun j => .int .u16 ((M.wrK l q j : Nat) : Int)) ∧ Below w.heap.size w wr)) (fun i _ => k - (intOf i).toNat)
      case atStart => exact ⟨0, Nat.zero_le _, rfl, HQ.out⟩
      case round =>
        clear HQ
        obtain ⟨q, hq, rfl, HR⟩ := hrel
        by_cases hlt : q < k
        · have i1 : (q : Int) < (k : Int) := by omega
          have hql : q < l.length := by rw [HH.out.1]; exact hlt
          obtain ⟨⟨c, t, f, kk⟩, hx⟩ : ∃ x, l[q] = x := ⟨_, rfl⟩
          have hloc : M.loc k q (c, t, f, kk) = 0 := by
            have := HH.out.2.2.2 q hql
            rw [M.wrong_at hql, hx, HH.out.1] at this
            simpa using this
          have hok : M.okI (c, t, f, kk) := hx ▸ HH.out.2.1 _ (List.getElem_mem hql)
          have hp := ((HH.out.2.2.1.below HR.out.2).2 q hql)
          rw [hx] at hp
          obtain ⟨q0, q1, q2, q3⟩ := hp
          simp only at q0 q1 q2 q3
          obtain ⟨b0, b1, b2, b3⟩ := hok
          simp only at b0 b1 b2 b3
          have hok : M.okI (c, t, f, kk) := ⟨b0, b1, b2, b3⟩
          obtain ⟨d, rfl⟩ : ∃ d : Nat, kk = d := ⟨kk.toNat, by omega⟩
          obtain ⟨t', rfl⟩ : ∃ d : Nat, t = d := ⟨t.toNat, by omega⟩
          obtain ⟨f', rfl⟩ : ∃ d : Nat, f = d := ⟨f.toNat, by omega⟩
          have HJ := hid (fun h : M.kind c = 11 => M.loc_ja hloc h)
          have HI := hid (fun h : M.kind c = 12 => M.loc_jif hloc h)
          have HS := hid (fun w d0 os => Calls.regrown_of (w := w) (d := d0) (os := os) (stored_any c t' f' d hok (M.loc_st hloc) _))
          obtain ⟨Bn, hBn⟩ : ∃ Bn : Nat, M.wrK l q q ||| M.stN (c, t', f', d) = Bn := ⟨_, rfl⟩
          have hSl := M.stN_lt (x := (c, (t' : Int), (f' : Int), (d : Int))) (M.loc_st hloc)
          have hBlt : Bn < 65536 := by
            rw [← hBn]
            exact Nat.or_lt_two_pow (n := 16) (M.wrK_lt l q q) hSl
          have hor : bits .or .u16 ((M.wrK l q q : Nat) : Int) (M.stW c d) = (Bn : Int) := by
            rw [M.stW_stN (t := t') (f := f'), ← hBn, u16_or _ _ (by omega) (by have := M.wrK_lt l q q; omega) (by omega) (by omega)]
            simp
          have HN := hid (fun j (hj : j < k) => by
            have := M.wrK_succ (k := q) (j := j) hql (by rw [HH.out.1]; exact hj) (by rw [hx]; exact hok)
            rw [hx, hBn] at this
            exact this)
          have HAnd := hid (fun (m : Nat) (hm : m < 65536) => show bits .and .u16 (m : Int) (Bn : Int) = ((m &&& Bn : Nat) : Int) from by
            rw [u16_and _ _ (by omega) (by omega) (by omega) (by omega)]; simp)
          have hR1 := HR.out.1.cell q hlt
          have HA := hid (al wr (.cells #[.int .u16 c, .int .u8 t', .int .u8 f', .int .u32 d] 32))
          have hA := At.new wr c t' f' d
          have HRow := hid (HR.out.1.below HA.out)
          clear hBn hloc hok hx hSl
          go_wp2_with fail
          obtain ⟨W1, hW1⟩ : ∃ W1, wr.alloc (.cells #[.int .u16 c, .int .u8 t', .int .u8 f', .int .u32 d] 32) = W1 := ⟨_, rfl⟩
          rw [hW1] at hA HA HRow ⊢
          have HB := stp (hid HR.out.2) HA.out
          have hneq : wr.heap.size ≠ w.heap.size := by have := HR.out.1.lt; omega
          clear hW1 HA HR q0 q1 q2 q3
          obtain ⟨a0, a1, a2, a3, _⟩ := hA.cells
          have k0 := cell_regrown a0
          have k1 := cell_regrown a1
          have k2 := cell_regrown a2
          have k3 := cell_regrown a3
          have k4 := cell_regrown (HRow.out.cell q hlt)
          have HC := hid (HS.out W1)
          refine wp_region_quiet_below (by kernel_rfl) (by kernel_rfl) ?_
          repeat (quiet_step (exact HC.out _ _))
          refine wpQuiet_nil ?_
          intro w2 hw2
          have hb : Below W1.heap.size W1 w2 := by obtain ⟨⟨d, os⟩, rfl⟩ := hw2; exact below_regrown _ _ _
          replace hA := hA.below hb
          replace HRow := hid (HRow.out.below hb)
          replace HB := stp HB hb
          clear hb hw2 k0 k1 k2 k3 k4 HC HS a0 a1 a2 a3
          obtain ⟨a0, a1, a2, a3, _⟩ := hA.cells
          by_cases hr : M.kind c = 13 ∨ M.kind c = 14
          · have HX := hid (M.nxt13 (i := q) (t := t') (f := f') (k := d) hr)
            have d1 : (M.kind c == 13) = true ∨ (M.kind c == 13) = false ∧ (M.kind c == 14) = true := by
              rcases hr with h | h <;> simp [h]
            clear hr
            rcases d1 with d1 | ⟨d1, d2⟩
            all_goals
              go_wp2_with (go_at_call 16; refine (kind_any _ _).mono ?_; rintro e w' ⟨rfl, rfl⟩)
              go_roundw
              case rel => exact ⟨q + 1, by omega, by go_num, HRow.out.congr (fun j hj => by rw [HN.out j hj, HX.out]; simp), HB.out⟩
              case measure => simp [intOf]; omega
          · have d1 : (M.kind c == 13) = false := by rw [beq_eq_false_iff_ne]; omega
            have d2 : (M.kind c == 14) = false := by rw [beq_eq_false_iff_ne]; omega
            by_cases h11 : M.kind c = 11
            · have d3 : (M.kind c == 11) = true := by rw [h11]; rfl
              have HX := hid (M.nxt11 (i := q) (d := d) (t := t') (f := f') h11)
              have hT := HJ.out h11
              have hT' : q + 1 + d < k := by omega
              have cT := HRow.out.cell _ hT'
              have fT := HRow.out.froz _ hT'
              have hand := HAnd.out _ (M.wrK_lt l q (q + 1 + d))
              obtain ⟨A, hAA⟩ : ∃ A, M.wrK l q (q + 1 + d) &&& Bn = A := ⟨_, rfl⟩
              rw [hAA] at hand
              have HAA := hid hAA
              clear hAA hr h11 HJ HI
              go_wp2_with (first
                | (go_at_call 16; refine (kind_any _ _).mono ?_; rintro e w' ⟨rfl, rfl⟩)
                | (go_at_call 28; refine (target_any _ _ (by omega) (by omega) _).mono ?_; rintro e w' ⟨rfl, rfl⟩))
              go_roundw
              case rel => exact ⟨q + 1, by omega, by go_num, (HRow.out.set _ hT' _).congr (fun j hj => by
                rw [HN.out j hj, HX.out]
                by_cases e : j = q + 1 + d
                · subst e; rw [if_pos rfl, if_pos (by simp), HAA.out]
                · rw [if_neg e, if_neg (by simpa using e)]), HB.out.setCell (Nat.le_refl _) _⟩
              case measure => simp [intOf]; omega
            · have d3 : (M.kind c == 11) = false := by rw [beq_eq_false_iff_ne]; omega
              by_cases h12 : M.kind c = 12
              · have d4 : (M.kind c == 12) = true := by rw [h12]; rfl
                have HX := hid (M.nxt12 (i := q) (t := t') (f := f') (k := d) h12)
                obtain ⟨hT, hF⟩ := HI.out h12
                have hT' : q + 1 + t' < k := by omega
                have hF' : q + 1 + f' < k := by omega
                have cT := HRow.out.cell _ hT'
                have fT := HRow.out.froz _ hT'
                have hand := HAnd.out _ (M.wrK_lt l q (q + 1 + t'))
                obtain ⟨A, hAA⟩ : ∃ A, M.wrK l q (q + 1 + t') &&& Bn = A := ⟨_, rfl⟩
                rw [hAA] at hand
                have HAA := hid hAA
                have HRow2 := hid (HRow.out.set _ hT' (.int .u16 (A : Int)))
                obtain ⟨v2, hv2⟩ : ∃ v2 : Nat, v2 = if q + 1 + f' = q + 1 + t' then A else M.wrK l q (q + 1 + f') := ⟨_, rfl⟩
                have cF : (w2.setCell ⟨w.heap.size, q + 1 + t', none⟩ (.int .u16 (A : Int))).cell? ⟨w.heap.size, q + 1 + f', none⟩ = some (.int .u16 (v2 : Int)) := by
                  rw [HRow2.out.cell _ hF', hv2]; split <;> rfl
                have fF := HRow.out.froz _ hF'
                have hAl : A < 65536 := by rw [← hAA]; exact Nat.lt_of_le_of_lt Nat.and_le_left (M.wrK_lt _ _ _)
                have hvl : v2 < 65536 := by rw [hv2]; split; exact hAl; exact M.wrK_lt _ _ _
                have hand2 := HAnd.out _ hvl
                obtain ⟨A2, hA2⟩ : ∃ A2, v2 &&& Bn = A2 := ⟨_, rfl⟩
                rw [hA2] at hand2
                have HA2 := hid hA2
                have HV2 := hid hv2
                have hne : wr.heap.size ≠ w.heap.size := hneq
                have a0' : (w2.setCell ⟨w.heap.size, q + 1 + t', none⟩ (.int .u16 (A : Int))).cell? ⟨wr.heap.size, 2, none⟩ = some (.int .u8 (f' : Int)) := by
                  rw [World.cell?_setCell_far _ _ _ _ (by simpa using hne.symm)]; exact a2
                clear hAA hA2 hv2 hr h11 h12 HJ HI hAl hvl hne
                go_wp2_with (first
                  | (go_at_call 16; refine (kind_any _ _).mono ?_; rintro e w' ⟨rfl, rfl⟩)
                  | (go_at_call 28; refine (target_any _ _ (by omega) (by omega) _).mono ?_; rintro e w' ⟨rfl, rfl⟩))
                go_roundw
                case rel => exact ⟨q + 1, by omega, by go_num, (HRow2.out.set _ hF' _).congr (fun j hj => by
                  rw [HN.out j hj, HX.out]
                  by_cases e : j = q + 1 + f'
                  · subst e
                    rw [if_pos rfl, if_pos (by simp), ← HA2.out, HV2.out]
                    split
                    · rename_i e2
                      rw [← HAA.out, Nat.and_assoc, Nat.and_self, e2]
                    · rfl
                  · rw [if_neg e]
                    by_cases e2 : j = q + 1 + t'
                    · subst e2; rw [if_pos rfl, if_pos (by simp), HAA.out]
                    · rw [if_neg e2, if_neg (by simp; omega)]), (HB.out.setCell (Nat.le_refl _) _).setCell (Nat.le_refl _) _⟩
                case measure => simp [intOf]; omega
              · have d4 : (M.kind c == 12) = false := by rw [beq_eq_false_iff_ne]; omega
                have HX := hid (M.nxtE (i := q) (t := t') (f := f') (k := d) ⟨h11, h12, by omega, by omega⟩)
                clear hr h11 h12 HJ HI
                by_cases hT' : q + 1 < k
                · have hT : (q : Int) + 1 < k := by omega
                  have cT := HRow.out.cell _ hT'
                  have fT := HRow.out.froz _ hT'
                  have hand := HAnd.out _ (M.wrK_lt l q (q + 1))
                  obtain ⟨A, hAA⟩ : ∃ A, M.wrK l q (q + 1) &&& Bn = A := ⟨_, rfl⟩
                  rw [hAA] at hand
                  have HAA := hid hAA
                  clear hAA
                  go_wp2_with (first
                    | (go_at_call 16; refine (kind_any _ _).mono ?_; rintro e w' ⟨rfl, rfl⟩))
                  go_roundw
                  case rel => exact ⟨q + 1, by omega, by go_num, (HRow.out.set _ hT' _).congr (fun j hj => by
                    rw [HN.out j hj, HX.out]
                    by_cases e : j = q + 1
                    · subst e; rw [if_pos rfl, if_pos (by simp), HAA.out]
                    · rw [if_neg e, if_neg (by simpa using e)]), HB.out.setCell (Nat.le_refl _) _⟩
                  case measure => simp [intOf]; omega
                · have hT : ¬ (q : Int) + 1 < k := by omega
                  go_wp2_with (first
                    | (go_at_call 16; refine (kind_any _ _).mono ?_; rintro e w' ⟨rfl, rfl⟩))
                  go_roundw
                  case rel => exact ⟨q + 1, by omega, by go_num, HRow.out.congr (fun j hj => by
                    rw [HN.out j hj, HX.out, if_neg (by simp; omega)]), HB.out⟩
                  case measure => simp [intOf]; omega
        · obtain rfl : q = k := by omega
          go_wp2
          go_ret
          exact ⟨_, rfl, HR.out.1.congr (fun j hj => by rw [← HH.out.1, M.wr_eq]), HR.out.2⟩
end Go.Proofs.Ytcojhfppipdfoab.B
