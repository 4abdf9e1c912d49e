/-
  The reference's numbers of ways, as walks over the Go text.
-/
import Derived.Test.YtfmlefadifpocaaJP
import Derived.Test.YtfmlefadifpocaaG5
namespace Go.Proofs.Ytfmlefadifpocaa.M
/-- the ways from a place, as they are known behind q of those behind it -/
def vT (l : List I) (js : List Nat) (q : Nat) : Nat := if js = [] then 1 else held (sumT (ways l) js q)
theorem vT_succ (l : List I) {js : List Nat} {q : Nat} (h : q < js.length) : vT l js (q + 1) = held (vT l js q + held (ways l js[q])) := by
  have hne : js ≠ [] := fun e => by rw [e] at h; cases h
  unfold vT
  rw [if_neg hne, if_neg hne, sumT_succ _ h, held_add]
theorem vT_all {l : List I} (hr : right l) (ok : ∀ x ∈ l, okI x) {k : Nat} (hk : k < l.length) : vT l (beh k (at0 l k)) (beh k (at0 l k)).length = held (ways l k) := by
  unfold vT
  rw [sumT_all, ways_eq hr ok hk]
  by_cases e : beh k (at0 l k) = []
  · have hrt : rets (at0 l k) = true := by
      unfold rets
      rw [Bool.or_eq_true, beq_iff_eq, beq_iff_eq]
      exact beh_nil.1 e
    rw [if_pos e, if_pos hrt]; rfl
  · have hrt : ¬ rets (at0 l k) = true := fun h => e (beh_nil.2 (by
      unfold rets at h
      rw [Bool.or_eq_true, beq_iff_eq, beq_iff_eq] at h
      exact h))
    rw [if_neg e, if_neg hrt]
theorem vT_le (l : List I) (js : List Nat) (q : Nat) : vT l js q ≤ 1125899906842624 := by
  unfold vT
  split
  · omega
  · exact held_le _
/-- the instructions of all ways from a place, as they are known behind q of those behind it -/
def uT (l : List I) (k : Nat) (js : List Nat) (q : Nat) : Nat := held (ways l k + sumT (work l) js q)
theorem uT_zero (l : List I) (k : Nat) (js : List Nat) : uT l k js 0 = held (ways l k) := by unfold uT; rw [sumT_zero, Nat.add_zero]
theorem uT_succ (l : List I) (k : Nat) {js : List Nat} {q : Nat} (h : q < js.length) : uT l k js (q + 1) = held (uT l k js q + held (work l js[q])) := by
  unfold uT
  rw [sumT_succ _ h, held_add, Nat.add_assoc]
theorem uT_all {l : List I} (hr : right l) (ok : ∀ x ∈ l, okI x) {k : Nat} (hk : k < l.length) : uT l k (beh k (at0 l k)) (beh k (at0 l k)).length = held (work l k) := by
  unfold uT
  rw [sumT_all, work_eq hr ok hk]
end Go.Proofs.Ytfmlefadifpocaa.M
namespace Go.Proofs.Ytfmlefadifpocaa.B
open Go.ChangeShapes Go.WideShapes Go.ChangeAt Go.RowKit
open Go.Sort hiding Below
set_option linter.unusedVariables false

theorem infoU : (Try.prog.info? 24).map (fun i => (i.zero, i.size, i.bytes)) = some (some (.int .u64 0), 1, 8) := by kernel_rfl

set_option maxHeartbeats 1600000 in
set_option maxRecDepth 100000 in
theorem held_any (x : Nat) (P : Int) (hP : P = x) (w : World) :
    Calls Try.prog 24 #[.int .u64 P] w fun e w' => e = .returned (.int .u64 ((M.held x : Nat) : Int)) ∧ w' = w := by
  subst hP
  have HS := hid (show ∀ y, M.held x = y → ((if x < 1125899906842624 then (x : Int) else 1125899906842624) = (y : Int)) from fun y h => by rw [← h]; unfold M.held; split <;> omega)
  rcases Nat.lt_trichotomy x 1125899906842624 with h | h | h
  · have d1 : (x : Int) < 1125899906842624 := by omega
    have d2 : ¬ (1125899906842624 : Int) < (x : Int) := by omega
    have HF := hid (show M.held x = x by unfold M.held; omega)
    clear h
    go_enter Try.func24, Try.ntmps24
    go_wp2
    go_ret
    exact ⟨by rw [HF.out]; rfl, rfl⟩
  · subst h
    have HF := hid (show M.held 1125899906842624 = 1125899906842624 by unfold M.held; omega)
    go_enter Try.func24, Try.ntmps24
    go_wp2
    go_ret
    exact ⟨by rw [HF.out]; rfl, rfl⟩
  · have d1 : (1125899906842624 : Int) < (x : Int) := by omega
    have d2 : ¬ (x : Int) < 1125899906842624 := by omega
    have d3 : 1125899906842624 ≤ x := by omega
    have HF := hid (show M.held x = 1125899906842624 by unfold M.held; omega)
    clear h
    go_enter Try.func24, Try.ntmps24
    go_wp2
    all_goals go_ret
    all_goals first
      | exact ⟨by rw [HF.out]; rfl, rfl⟩
      | (exfalso; omega)

set_option maxHeartbeats 6400000 in
set_option maxRecDepth 1000000 in
theorem rfrom_any (b o n cap : Nat) (l : List M.I) (hln : l.length = n) (hn : n ≤ 65536) (ok : ∀ i ∈ l, M.okI i) (hr : M.right l) (w : World) (hl : Ly w b o l) :
    Calls Try.prog 13 #[.slice (some ⟨b, o, none⟩) n cap] w fun e w' => ∃ g, e = .returned (.slice (some ⟨g, 0, none⟩) n n) ∧ Row w' g n (fun j => .int .u64 ((M.held (M.ways l j) : Nat) : Int)) ∧ Below w.heap.size w w' ∧ w.heap.size ≤ g := by
  obtain ⟨i0, hi, hz0, hz1, hz2⟩ := info_parts infoU
  have HH := hid (And.intro hln (And.intro ok (And.intro hl hr)))
  have hbl : b < w.heap.size := hl.1
  clear hln ok hl hr
  go_enter Try.func13, Try.ntmps13
  go_wp2_with (at_make; refine wpList_make_full _ rfl _ _ 28 rfl w.heap.size 24 i0 (.int .u64 0) 1 Try.underlying28 hi hz0 hz1 .i64 .i64 n n n rfl rfl rfl rfl ?c1 ?c2 (Nat.le_refl _) ?_)
  case c1 => rw [hz2]; omega
  case c2 => unfold maxLen; omega
  intro wm hown hgrow
  have hbm : Below w.heap.size w wm := (Below.refl _ _).grown hgrow (Nat.le_refl _) (by intro k hk; cases hk)
  have hR0 : Row wm w.heap.size n (fun j => .int .u64 ((if n ≤ j then M.held (M.ways l j) else 0 : Nat) : Int)) := (Row.of_own hown (fun j hj => made_get (.int .u64 0) n j hj) (hown.lt _ rfl).2).congr fun j hj => by rw [if_neg (by omega)]; rfl
  have HM := hid (And.intro hR0 hbm)
  clear hown hgrow hbm hR0
  go_wp2
  go_loopw [4] (fun i wr => ∃ k : Nat, k ≤ n ∧ i = .int .i64 ((k : Int) - 1) ∧ Hid (Row wr w.heap.size n (fun j => .int .u64 ((if k ≤ j then M.held (M.ways l j) else 0 : Nat) : Int)) ∧ Below w.heap.size w wr)) (fun i _ => (intOf i + 1).toNat)
  case atStart => exact ⟨n, Nat.le_refl _, by go_num, HM.out⟩
  case round =>
    clear HM
    obtain ⟨k, hk, rfl, HR⟩ := hrel
    cases k with
    | succ k =>
      rw [show ((k + 1 : Nat) : Int) - 1 = (k : Int) by omega] at *
      have i2 : (k : Int) < (n : Int) := by omega
      have hkl : k < l.length := by rw [HH.out.1]; omega
      have hlt : k < n := by omega
      obtain ⟨js, hjs⟩ : ∃ js, M.beh k (M.at0 l k) = js := ⟨_, rfl⟩
      have HN := hid (fun W h => rbehind_ly b o n cap k l HH.out.1 hn hkl HH.out.2.1 W h js hjs)
      have HJ := hid (show (∀ y ∈ js, k < y ∧ y < n) ∧ M.vT l js js.length = M.held (M.ways l k) from
        ⟨fun y hy => by rw [← hjs] at hy; rw [← HH.out.1]; exact ⟨M.beh_gt hy, M.beh_lt HH.out.2.2.2 HH.out.2.1 hkl hy⟩, by rw [← hjs]; exact M.vT_all HH.out.2.2.2 HH.out.2.1 hkl⟩)
      have hlen : js.length ≤ 2 := by rw [← hjs]; exact M.beh_len _ _
      clear hjs
      obtain ⟨m, hm⟩ : ∃ m, js.length = m := ⟨_, rfl⟩
      rw [hm] at HN hlen
      have HMM := hid hm
      go_wp2_with fail
      refine (HN.out _ (HH.out.2.2.1.far HR.out.2 hbl)).mono ?_
      rintro e w3 ⟨a, ca, rfl, hnx, hfr, hb⟩
      have hR3 := HR.out.1.below hb
      have c0 := hR3.cell k hlt
      have f0 := hR3.froz k hlt
      have HGN := hid (show ∀ A, a = some A → A.block ≠ w.heap.size from fun A hA => by have := hfr A hA; have := HR.out.1.lt; omega)
      obtain ⟨wz, HI, hdv⟩ : ∃ wz, Hid (Row wz w.heap.size n (fun j => .int .u64 ((if k < j then M.held (M.ways l j) else if j = k then M.vT l js 0 else 0 : Nat) : Int)) ∧ Below w.heap.size w wz ∧ Nx wz a js) ∧ (((m : Int) == 0) = true ∧ w3.setCell ⟨w.heap.size, k, none⟩ (.int .u64 1) = wz ∨ ((m : Int) == 0) = false ∧ w3 = wz) := by
        by_cases h0 : m = 0
        · have hnil : js = [] := List.eq_nil_of_length_eq_zero (by omega)
          refine ⟨_, ⟨(hR3.set k hlt (.int .u64 1)).congr (fun j hj => ?_), (stp (hid HR.out.2) hb).out.setCell (Nat.le_refl _) _, hnx.off HGN.out⟩, .inl ⟨by simpa using h0, rfl⟩⟩
          by_cases e : j = k
          · subst e; rw [if_pos rfl, if_neg (Nat.lt_irrefl j), if_pos rfl, hnil]; rfl
          · rw [if_neg e]
            by_cases e2 : k < j
            · rw [if_pos e2, if_pos (by omega)]
            · rw [if_neg e2, if_neg (by omega), if_neg e]
        · have hne : js ≠ [] := fun e => h0 (by rw [← hm, e]; rfl)
          refine ⟨w3, ⟨hR3.congr (fun j hj => ?_), (stp (hid HR.out.2) hb).out, hnx⟩, .inr ⟨by simpa using h0, rfl⟩⟩
          by_cases e : j = k
          · subst e
            rw [if_neg (show ¬ j + 1 ≤ j by omega), if_neg (Nat.lt_irrefl j), if_pos rfl]
            unfold M.vT
            rw [if_neg hne, M.sumT_zero]; rfl
          · by_cases e2 : k < j
            · rw [if_pos (by omega), if_pos e2]
            · rw [if_neg (by omega), if_neg e2, if_neg e]
      clear hb hnx hfr HN HR hR3 hm
      rcases hdv with ⟨dv, hV⟩ | ⟨dv, rfl⟩
      all_goals
        go_wp2
        clear c0 f0
        go_loopw [6] (fun i wr => ∃ q : Nat, q ≤ m ∧ i = .int .i64 q ∧ Hid (Row wr w.heap.size n (fun j => .int .u64 ((if k < j then M.held (M.ways l j) else if j = k then M.vT l js q else 0 : Nat) : Int)) ∧ Below w.heap.size w wr ∧ Nx wr a js)) (fun i _ => m - (intOf i).toNat)
        case atStart => exact ⟨0, Nat.zero_le _, rfl, HI.out⟩
        case round =>
          clear HI
          obtain ⟨q, hq, rfl, HQ⟩ := hrel
          by_cases hq2 : q < m
          · have i3 : (q : Int) < (m : Int) := by omega
            have hqj : q < js.length := by rw [HMM.out]; exact hq2
            obtain ⟨g', rfl⟩ : ∃ g', a = some ⟨g', 0, none⟩ := by
              rcases HQ.out.2.2 with h | ⟨g', e, _⟩
              · rw [h] at hqj; simp at hqj
              · exact ⟨g', e⟩
            have cy := nx_get HQ.out.2.2 q hqj
            obtain ⟨y, hy⟩ : ∃ y, js[q] = y := ⟨_, rfl⟩
            rw [hy] at cy
            obtain ⟨hky, hyn⟩ := HJ.out.1 y (by rw [← hy]; exact List.getElem_mem hqj)
            have i4 : (y : Int) < (n : Int) := by omega
            have HT := hid (show M.vT l js (q + 1) = M.held (M.vT l js q + M.held (M.ways l y)) by rw [M.vT_succ l hqj, hy])
            have cY := HQ.out.1.cell y hyn
            simp only [if_pos hky] at cY
            have cK := HQ.out.1.cell k hlt
            simp only [if_neg (Nat.lt_irrefl k), if_true] at cK
            have fK := HQ.out.1.froz k hlt
            obtain ⟨x, hx⟩ : ∃ x, M.vT l js q = x := ⟨_, rfl⟩
            obtain ⟨z, hzz⟩ : ∃ z, M.held (M.ways l y) = z := ⟨_, rfl⟩
            have hxb : x ≤ 1125899906842624 := by rw [← hx]; exact M.vT_le l js q
            have hzb : z ≤ 1125899906842624 := by rw [← hzz]; exact M.held_le _
            rw [hx] at cK
            rw [hzz] at cY
            rw [hx, hzz] at HT
            have u1 : IntKind.u64.wrap ((x : Int) + (z : Int)) = (x : Int) + (z : Int) := Go.IntWalk.u64_in _ (by omega)
            clear hy hx hzz
            go_wp2
            refine wp_region_still_tail 15 (by kernel_rfl) (by kernel_rfl) ?_
            change wpStill _ _ (World.drew wr) (fun a' => wpList _ _ _ _ a' (World.drew wr)) _ _
            simp only [List.take_succ_cons, List.take_zero, List.drop_succ_cons, List.drop_zero]
            repeat still_step
            still_call (held_any (x + z) _ (by omega) _)
            refine wpStill_nil ?_
            rw [← HT.out]
            obtain ⟨V, hV⟩ : ∃ V, M.vT l js (q + 1) = V := ⟨_, rfl⟩
            rw [hV]
            have HVV := hid hV
            clear hV
            go_wp2
            go_roundw
            case rel => exact ⟨q + 1, by omega, by go_num, ((HQ.out.1.set k hlt _).congr (fun j hj => by
              by_cases e : j = k
              · subst e
                rw [if_pos rfl, if_neg (Nat.lt_irrefl j), if_pos rfl, HVV.out]
              · rw [if_neg e, if_neg e, if_neg e])).below (Below.refl _ _).drew, (HQ.out.2.1.setCell (Nat.le_refl _) _).drew, (HQ.out.2.2.off HGN.out).below (Below.refl _ _).drew⟩
            case measure => simp [intOf]; omega
          · obtain rfl : q = m := by omega
            have HF := hid (show Row wr w.heap.size n (fun j => .int .u64 ((if k ≤ j then M.held (M.ways l j) else 0 : Nat) : Int)) from HQ.out.1.congr fun j _ => by
              by_cases e : j = k
              · subst e; rw [if_neg (Nat.lt_irrefl j), if_pos rfl, if_pos (Nat.le_refl j), ← HMM.out, HJ.out.2]
              · by_cases e2 : k < j
                · rw [if_pos e2, if_pos (by omega)]
                · rw [if_neg e2, if_neg e, if_neg (by omega)])
            go_wp2
            go_roundw
            case rel => exact ⟨k, by omega, by go_num, HF.out, HQ.out.2.1⟩
            case measure => simp [intOf]
    | zero =>
      have HF := hid (show Row wr w.heap.size n (fun j => .int .u64 ((M.held (M.ways l j) : Nat) : Int)) from HR.out.1.congr fun j _ => by rw [if_pos (Nat.zero_le _)])
      go_wp2
      go_ret
      exact ⟨w.heap.size, rfl, HF.out, HR.out.2, Nat.le_refl _⟩
end Go.Proofs.Ytfmlefadifpocaa.B
namespace Go.Proofs.Ytfmlefadifpocaa.B
open Go.ChangeShapes Go.WideShapes Go.ChangeAt Go.RowKit
open Go.Sort hiding Below
set_option linter.unusedVariables false

set_option maxHeartbeats 6400000 in
set_option maxRecDepth 1000000 in
theorem rwork_any (b o n cap : Nat) (l : List M.I) (hln : l.length = n) (hn : n ≤ 65536) (ok : ∀ i ∈ l, M.okI i) (hr : M.right l) (w : World) (hl : Ly w b o l) :
    Calls Try.prog 14 #[.slice (some ⟨b, o, none⟩) n cap] w fun e w' => e = .returned (.int .u64 ((M.held (M.work l 0) : Nat) : Int)) ∧ Below w.heap.size w w' := by
  obtain ⟨i0, hi, hz0, hz1, hz2⟩ := info_parts infoU
  have h0 : 0 < n := by rw [← hln]; exact ((M.right_iff l).1 hr).1.1
  have i1 : (0 : Int) < (n : Int) := by omega
  have HC := hid (rfrom_any b o n cap l hln hn ok hr w hl)
  have HH := hid (And.intro hln (And.intro ok (And.intro hl hr)))
  have hbl : b < w.heap.size := hl.1
  clear hln ok hl hr
  go_enter Try.func14, Try.ntmps14
  go_wp2_with fail
  refine HC.out.mono ?_
  rintro e w1 ⟨gf, rfl, hF, hb, hgf⟩
  have HR1 := hid (And.intro hF hb)
  clear hF hb HC
  go_wp2_with (at_make; refine wpList_make_full _ rfl _ _ 28 rfl w1.heap.size 24 i0 (.int .u64 0) 1 Try.underlying28 hi hz0 hz1 .i64 .i64 n n n rfl rfl rfl rfl ?c1 ?c2 (Nat.le_refl _) ?_)
  case c1 => rw [hz2]; omega
  case c2 => unfold maxLen; omega
  intro wm hown hgrow
  have hbm : Below w1.heap.size w1 wm := (Below.refl _ _).grown hgrow (Nat.le_refl _) (by intro k hk; cases hk)
  have hR0 : Row wm w1.heap.size n (fun j => .int .u64 ((if n ≤ j then M.held (M.work l j) else 0 : Nat) : Int)) := (Row.of_own hown (fun j hj => made_get (.int .u64 0) n j hj) (hown.lt _ rfl).2).congr fun j hj => by rw [if_neg (by omega)]; rfl
  obtain ⟨go, hgo⟩ : ∃ go, w1.heap.size = go := ⟨_, rfl⟩
  have hfo : gf < go := by rw [← hgo]; exact HR1.out.1.lt
  have hwo : w.heap.size ≤ go := by rw [← hgo]; exact HR1.out.2.size
  have HM := hid (show Row wm gf n (fun j => .int .u64 ((M.held (M.ways l j) : Nat) : Int)) ∧ Row wm go n (fun j => .int .u64 ((if n ≤ j then M.held (M.work l j) else 0 : Nat) : Int)) ∧ Below w.heap.size w wm from ⟨HR1.out.1.below hbm, by rw [← hgo]; exact hR0, (stp (hid HR1.out.2) hbm).out⟩)
  rw [hgo]
  clear hown hgrow hbm hR0 HR1 hgo
  go_wp2
  go_loopw [5] (fun i wr => ∃ k : Nat, k ≤ n ∧ i = .int .i64 ((k : Int) - 1) ∧ Hid (Row wr gf n (fun j => .int .u64 ((M.held (M.ways l j) : Nat) : Int)) ∧ Row wr go n (fun j => .int .u64 ((if k ≤ j then M.held (M.work l j) else 0 : Nat) : Int)) ∧ Below w.heap.size w wr)) (fun i _ => (intOf i + 1).toNat)
  case atStart => exact ⟨n, Nat.le_refl _, by go_num, HM.out⟩
  case round =>
    clear HM
    obtain ⟨k, hk, rfl, HR⟩ := hrel
    cases k with
    | succ k =>
      rw [show ((k + 1 : Nat) : Int) - 1 = (k : Int) by omega] at *
      have i2 : (k : Int) < (n : Int) := by omega
      have hkl : k < l.length := by rw [HH.out.1]; omega
      have hlt : k < n := by omega
      obtain ⟨js, hjs⟩ : ∃ js, M.beh k (M.at0 l k) = js := ⟨_, rfl⟩
      have HN := hid (fun W h => rbehind_ly b o n cap k l HH.out.1 hn hkl HH.out.2.1 W h js hjs)
      have HJ := hid (show (∀ y ∈ js, k < y ∧ y < n) ∧ M.uT l k js js.length = M.held (M.work l k) from
        ⟨fun y hy => by rw [← hjs] at hy; rw [← HH.out.1]; exact ⟨M.beh_gt hy, M.beh_lt HH.out.2.2.2 HH.out.2.1 hkl hy⟩, by rw [← hjs]; exact M.uT_all HH.out.2.2.2 HH.out.2.1 hkl⟩)
      have hlen : js.length ≤ 2 := by rw [← hjs]; exact M.beh_len _ _
      clear hjs
      obtain ⟨m, hm⟩ : ∃ m, js.length = m := ⟨_, rfl⟩
      rw [hm] at HN hlen
      have HMM := hid hm
      clear hm
      go_wp2_with fail
      refine (HN.out _ (HH.out.2.2.1.far HR.out.2.2 hbl)).mono ?_
      rintro e w3 ⟨a, ca, rfl, hnx, hfr, hb⟩
      have hF3 := HR.out.1.below hb
      have hR3 := HR.out.2.1.below hb
      have cf := hF3.cell k hlt
      have c0 := hR3.cell k hlt
      have f0 := hR3.froz k hlt
      obtain ⟨v, hv⟩ : ∃ v, M.held (M.ways l k) = v := ⟨_, rfl⟩
      rw [hv] at cf
      have HGN := hid (show ∀ A, a = some A → A.block ≠ go from fun A hA => by have := hfr A hA; have := HR.out.2.1.lt; omega)
      obtain ⟨wz, hwz⟩ : ∃ wz, w3.setCell ⟨go, k, none⟩ (.int .u64 (v : Int)) = wz := ⟨_, rfl⟩
      have HI := hid (show Row wz gf n (fun j => .int .u64 ((M.held (M.ways l j) : Nat) : Int)) ∧ Row wz go n (fun j => .int .u64 ((if k < j then M.held (M.work l j) else if j = k then M.uT l k js 0 else 0 : Nat) : Int)) ∧ Below w.heap.size w wz ∧ Nx wz a js from by
        rw [← hwz]
        refine ⟨hF3.other _ _ _ (by omega), (hR3.set k hlt _).congr (fun j hj => ?_), (stp (hid HR.out.2.2) hb).out.setCell (by simp; omega) _, hnx.off HGN.out⟩
        by_cases e : j = k
        · subst e; rw [if_pos rfl, if_neg (Nat.lt_irrefl j), if_pos rfl, M.uT_zero, hv]
        · rw [if_neg e]
          by_cases e2 : k < j
          · rw [if_pos e2, if_pos (by omega)]
          · rw [if_neg e2, if_neg (by omega), if_neg e])
      clear hb hnx hfr HN HR hR3 hF3 hv
      go_wp2
      clear c0 f0 cf hwz
      go_loopw [7] (fun i wr => ∃ q : Nat, q ≤ m ∧ i = .int .i64 q ∧ Hid (Row wr gf n (fun j => .int .u64 ((M.held (M.ways l j) : Nat) : Int)) ∧ Row wr go n (fun j => .int .u64 ((if k < j then M.held (M.work l j) else if j = k then M.uT l k js q else 0 : Nat) : Int)) ∧ Below w.heap.size w wr ∧ Nx wr a js)) (fun i _ => m - (intOf i).toNat)
      case atStart => exact ⟨0, Nat.zero_le _, rfl, HI.out⟩
      case round =>
        clear HI
        obtain ⟨q, hq, rfl, HQ⟩ := hrel
        by_cases hq2 : q < m
        · have i3 : (q : Int) < (m : Int) := by omega
          have hqj : q < js.length := by rw [HMM.out]; exact hq2
          obtain ⟨g', rfl⟩ : ∃ g', a = some ⟨g', 0, none⟩ := by
            rcases HQ.out.2.2.2 with h | ⟨g', e, _⟩
            · rw [h] at hqj; simp at hqj
            · exact ⟨g', e⟩
          have cy := nx_get HQ.out.2.2.2 q hqj
          obtain ⟨y, hy⟩ : ∃ y, js[q] = y := ⟨_, rfl⟩
          rw [hy] at cy
          obtain ⟨hky, hyn⟩ := HJ.out.1 y (by rw [← hy]; exact List.getElem_mem hqj)
          have i4 : (y : Int) < (n : Int) := by omega
          have HT := hid (show M.uT l k js (q + 1) = M.held (M.uT l k js q + M.held (M.work l y)) by rw [M.uT_succ l k hqj, hy])
          have cY := HQ.out.2.1.cell y hyn
          simp only [if_pos hky] at cY
          have cK := HQ.out.2.1.cell k hlt
          simp only [if_neg (Nat.lt_irrefl k), if_true] at cK
          have fK := HQ.out.2.1.froz k hlt
          obtain ⟨x, hx⟩ : ∃ x, M.uT l k js q = x := ⟨_, rfl⟩
          obtain ⟨z, hzz⟩ : ∃ z, M.held (M.work l y) = z := ⟨_, rfl⟩
          have hxb : x ≤ 1125899906842624 := by rw [← hx]; exact M.held_le _
          have hzb : z ≤ 1125899906842624 := by rw [← hzz]; exact M.held_le _
          rw [hx] at cK
          rw [hzz] at cY
          rw [hx, hzz] at HT
          have u1 : IntKind.u64.wrap ((x : Int) + (z : Int)) = (x : Int) + (z : Int) := Go.IntWalk.u64_in _ (by omega)
          clear hy hx hzz
          go_wp2
          refine wp_region_still_tail 15 (by kernel_rfl) (by kernel_rfl) ?_
          change wpStill _ _ (World.drew wr) (fun a' => wpList _ _ _ _ a' (World.drew wr)) _ _
          simp only [List.take_succ_cons, List.take_zero, List.drop_succ_cons, List.drop_zero]
          repeat still_step
          still_call (held_any (x + z) _ (by omega) _)
          refine wpStill_nil ?_
          rw [← HT.out]
          obtain ⟨V, hV⟩ : ∃ V, M.uT l k js (q + 1) = V := ⟨_, rfl⟩
          rw [hV]
          have HVV := hid hV
          clear hV
          go_wp2
          go_roundw
          case rel => exact ⟨q + 1, by omega, by go_num, (HQ.out.1.other _ _ _ (by omega)).below (Below.refl _ _).drew, ((HQ.out.2.1.set k hlt _).congr (fun j hj => by
            by_cases e : j = k
            · subst e
              rw [if_pos rfl, if_neg (Nat.lt_irrefl j), if_pos rfl, HVV.out]
            · rw [if_neg e, if_neg e, if_neg e])).below (Below.refl _ _).drew, (HQ.out.2.2.1.setCell (by simp; omega) _).drew, (HQ.out.2.2.2.off HGN.out).below (Below.refl _ _).drew⟩
          case measure => simp [intOf]; omega
        · obtain rfl : q = m := by omega
          have HF := hid (show Row wr go n (fun j => .int .u64 ((if k ≤ j then M.held (M.work l j) else 0 : Nat) : Int)) from HQ.out.2.1.congr fun j _ => by
            by_cases e : j = k
            · subst e; rw [if_neg (Nat.lt_irrefl j), if_pos rfl, if_pos (Nat.le_refl j), ← HMM.out, HJ.out.2]
            · by_cases e2 : k < j
              · rw [if_pos e2, if_pos (by omega)]
              · rw [if_neg e2, if_neg e, if_neg (by omega)])
          go_wp2
          go_roundw
          case rel => exact ⟨k, by omega, by go_num, HQ.out.1, HF.out, HQ.out.2.2.1⟩
          case measure => simp [intOf]
    | zero =>
      have c0 := HR.out.2.1.cell 0 h0
      simp only [Nat.le_refl, if_true] at c0
      obtain ⟨v, hv⟩ : ∃ v, M.held (M.work l 0) = v := ⟨_, rfl⟩
      have HV := hid hv
      rw [hv] at c0
      clear hv
      go_wp2
      go_ret
      exact ⟨by rw [HV.out]; rfl, HR.out.2.2⟩

set_option maxHeartbeats 1600000 in
set_option maxRecDepth 100000 in
theorem renough_any (b o n cap : Nat) (l : List M.I) (hln : l.length = n) (hn : n ≤ 4096) (ok : ∀ i ∈ l, M.okI i) (hr : M.right l) (w : World) (hl : Ly w b o l) :
    Calls Try.prog 15 #[.slice (some ⟨b, o, none⟩) n cap] w fun e w' => e = .returned (.int .u64 ((M.held (M.ways l 0 * n) : Nat) : Int)) ∧ Below w.heap.size w w' := by
  have h0 : 0 < n := by rw [← hln]; exact ((M.right_iff l).1 hr).1.1
  have i1 : (0 : Int) < (n : Int) := by omega
  have HC := hid (rfrom_any b o n cap l hln (by omega) ok hr w hl)
  obtain ⟨v, hv⟩ : ∃ v, M.held (M.ways l 0) = v := ⟨_, rfl⟩
  have hvb : v ≤ 1125899906842624 := by rw [← hv]; exact M.held_le _
  have HE := hid (show M.held (v * n) = M.held (M.ways l 0 * n) by rw [← hv, M.held_mul _ _ h0])
  have hp : v * n ≤ 1125899906842624 * 4096 := Nat.mul_le_mul hvb hn
  obtain ⟨P, hP⟩ : ∃ P, v * n = P := ⟨_, rfl⟩
  have hPI : (v : Int) * (n : Int) = (P : Int) := by rw [← hP]; simp
  rw [hP] at HE hp
  have u1 : IntKind.u64.wrap (P : Int) = (P : Int) := Go.IntWalk.u64_in _ (by omega)
  have u2 : IntKind.u64.wrap (n : Int) = (n : Int) := Go.IntWalk.u64_in _ (by omega)
  have HV := hid hv
  clear ok hr hl hln hv hP
  go_enter Try.func15, Try.ntmps15
  go_wp2_with fail
  refine HC.out.mono ?_
  rintro e w1 ⟨g, rfl, hF, hb, _⟩
  have c0 := hF.cell 0 h0
  simp only [HV.out] at c0
  have HB := hid hb
  clear hF hb HC
  go_wp2_with fail
  refine (held_any P _ (by first | rfl | omega | exact hPI) _).mono ?_
  rintro e w2 ⟨rfl, rfl⟩
  go_wp2
  go_ret
  exact ⟨by rw [← HE.out]; rfl, HB.out⟩

set_option maxHeartbeats 3200000 in
set_option maxRecDepth 1000000 in
theorem reach_any (b o n cap : Nat) (l : List M.I) (hln : l.length = n) (hn : n ≤ 100) (ok : ∀ i ∈ l, M.okI i) (hr : M.right l) : ∀ (d i m : Nat) (M1 : Int), M1 = (m : Int) + 1 → n ≤ i + d → i < n → m ≤ i → M.ways l i ≤ 300 → ∀ w, Ly w b o l →
    Calls Try.prog 17 #[.slice (some ⟨b, o, none⟩) n cap, .int .i64 i, .int .u64 M1] w fun e w' => e = .returned (.tuple #[.int .u64 ((M.ways l i : Nat) : Int), .int .u64 ((M.ek l i m : Nat) : Int)]) ∧ Below w.heap.size w w' := by
  intro d
  induction d with
  | zero => intro i m M1 _ h1 h2; omega
  | succ d ih =>
    intro i m M1 hM1 hd hi hmi hwy w hl
    have hil : i < l.length := by omega
    obtain ⟨js, hjs⟩ : ∃ js, M.beh i (M.at0 l i) = js := ⟨_, rfl⟩
    have HN := hid (rbehind_ly b o n cap i l hln (by omega) hil ok w hl js hjs)
    have hlen : js.length ≤ 2 := by rw [← hjs]; exact M.beh_len _ _
    by_cases hnil : js = []
    · subst hnil
      have hrt : M.rets (M.at0 l i) = true := by
        unfold M.rets
        rw [Bool.or_eq_true, beq_iff_eq, beq_iff_eq]
        exact M.beh_nil.1 hjs
      obtain ⟨e1, e2⟩ := M.ek_ret hr ok hil hrt m
      have HE := hid (And.intro e1 (And.intro e2 hM1))
      clear ih hjs hrt e1 e2 hl ok hr hM1
      go_enter Try.func17, Try.ntmps17
      go_wp2_with fail
      refine HN.out.mono ?_
      rintro e w1 ⟨a, c, rfl, _, _, hb⟩
      have HB := hid hb
      clear hb HN
      go_wp2
      go_ret2
      exact ⟨by rw [HE.out.1, HE.out.2.1, HE.out.2.2]; rfl, HB.out⟩
    · have hrt : M.rets (M.at0 l i) = false := by
        cases h : M.rets (M.at0 l i) with
        | false => rfl
        | true =>
          exfalso
          apply hnil
          rw [← hjs]
          exact M.beh_nil.2 (by
            unfold M.rets at h
            rw [Bool.or_eq_true, beq_iff_eq, beq_iff_eq] at h
            exact h)
      have hW : M.sumT (M.ways l) js js.length = M.ways l i := by
        rw [← hjs, M.sumT_all, M.ways_eq hr ok hil, if_neg (by rw [hrt]; simp)]
      have hK : M.sumT (fun j => M.ek l j (m + 1)) js js.length = M.ek l i m := by
        rw [← hjs, M.sumT_all, ← M.ek_on hr ok hil hrt]
      have hekb : M.ek l i m ≤ 60000 := by
        unfold M.ek
        have h1 := M.work_le hr ok l.length i hil (by omega)
        have h2 : M.ways l i * (l.length - i) ≤ 300 * 100 := Nat.mul_le_mul hwy (by omega)
        have h3 : M.ways l i * m ≤ 300 * 100 := Nat.mul_le_mul hwy (by omega)
        omega
      have hTW : ∀ q, M.sumT (M.ways l) js q ≤ 300 := fun q => by
        have h1 := M.sumT_le (M.ways l) js q
        have h2 : (js.map (M.ways l)).sum = M.ways l i := by rw [← hW]; unfold M.sumT; rw [List.take_length]
        omega
      have hTK : ∀ q, M.sumT (fun j => M.ek l j (m + 1)) js q ≤ 60000 := fun q => by
        have h1 := M.sumT_le (fun j => M.ek l j (m + 1)) js q
        have h2 : (js.map (fun j => M.ek l j (m + 1))).sum = M.ek l i m := by rw [← hK]; unfold M.sumT; rw [List.take_length]
        omega
      obtain ⟨s, hs⟩ : ∃ s, js.length = s := ⟨_, rfl⟩
      rw [hs] at HN hlen hW hK
      have hsz : ((s : Int) == 0) = false := by
        rw [beq_eq_false_iff_ne]
        intro e
        exact hnil (List.eq_nil_of_length_eq_zero (by omega))
      have HJ := hid (show ∀ y ∈ js, i < y ∧ y < n ∧ M.ways l y ≤ 300 from fun y hy => by
        rw [← hjs] at hy
        exact ⟨M.beh_gt hy, by rw [← hln]; exact M.beh_lt hr ok hil hy, Nat.le_trans (M.ways_beh hr ok hil hy) hwy⟩)
      have HI := hid ih
      have HX := hid (And.intro hW (And.intro hK (And.intro hTW (And.intro hTK hs))))
      have HL := hid hl
      have HM1 := hid hM1
      clear ih hjs hrt hW hK hTW hTK hl ok hr hnil hs hekb
      subst hM1
      go_enter Try.func17, Try.ntmps17
      go_wp2_with fail
      refine HN.out.mono ?_
      rintro e w1 ⟨a, c, rfl, hnx, _, hb⟩
      have HR0 := hid (show Nx w1 a js ∧ Below w.heap.size w w1 from ⟨hnx, hb⟩)
      clear hb hnx HN
      go_wp2
      go_loopw [9, 10, 11] (fun wv kv iv wr => ∃ q : Nat, q ≤ s ∧ iv = .int .i64 q ∧ wv = .int .u64 ((M.sumT (M.ways l) js q : Nat) : Int) ∧ kv = .int .u64 ((M.sumT (fun j => M.ek l j (m + 1)) js q : Nat) : Int) ∧ Hid (Nx wr a js ∧ Below w.heap.size w wr)) (fun _ _ iv _ => s - (intOf iv).toNat)
      case atStart => exact ⟨0, Nat.zero_le _, rfl, by rw [M.sumT_zero]; rfl, by rw [M.sumT_zero]; rfl, HR0.out⟩
      case round =>
        clear HR0
        obtain ⟨q, hq, rfl, rfl, rfl, HR⟩ := hrel
        by_cases hqs : q < s
        · have i2 : (q : Int) < (s : Int) := by omega
          have hqj : q < js.length := by rw [HX.out.2.2.2.2]; exact hqs
          obtain ⟨g', rfl⟩ : ∃ g', a = some ⟨g', 0, none⟩ := by
            rcases HR.out.1 with h | ⟨g', e, _⟩
            · rw [h] at hqj; simp at hqj
            · exact ⟨g', e⟩
          have cy := nx_get HR.out.1 q hqj
          obtain ⟨y, hy⟩ : ∃ y, js[q] = y := ⟨_, rfl⟩
          rw [hy] at cy
          obtain ⟨hy1, hy2, hy3⟩ := HJ.out y (by rw [← hy]; exact List.getElem_mem hqj)
          have HT := hid (show M.sumT (M.ways l) js (q + 1) = M.sumT (M.ways l) js q + M.ways l y ∧ M.sumT (fun j => M.ek l j (m + 1)) js (q + 1) = M.sumT (fun j => M.ek l j (m + 1)) js q + M.ek l y (m + 1) from
            ⟨by rw [M.sumT_succ _ hqj, hy], by rw [M.sumT_succ _ hqj, hy]⟩)
          have b1 := HX.out.2.2.1 (q + 1)
          have b2 := HX.out.2.2.2.1 (q + 1)
          rw [HT.out.1] at b1
          rw [HT.out.2] at b2
          have HCy := hid (fun W h => HI.out y (m + 1) ((m : Int) + 1 + 1) (by omega) (by omega) hy2 (by omega) hy3 W h)
          obtain ⟨A, hA⟩ : ∃ A, M.sumT (M.ways l) js q = A := ⟨_, rfl⟩
          obtain ⟨B, hB⟩ : ∃ B, M.sumT (fun j => M.ek l j (m + 1)) js q = B := ⟨_, rfl⟩
          obtain ⟨C, hC⟩ : ∃ C, M.ways l y = C := ⟨_, rfl⟩
          obtain ⟨D, hD⟩ : ∃ D, M.ek l y (m + 1) = D := ⟨_, rfl⟩
          rw [hA, hC] at b1
          rw [hB, hD] at b2
          rw [hA, hB, hC, hD] at HT
          rw [hA, hB]
          rw [hC, hD] at HCy
          clear hA hB hC hD hy hqj hy3
          go_wp2_with fail
          refine (HCy.out _ (HL.out.below HR.out.2)).mono ?_
          rintro e w2 ⟨rfl, hb⟩
          have HR2 := hid (show Nx w2 (some ⟨g', 0, none⟩) js ∧ Below w.heap.size w w2 from ⟨HR.out.1.below hb, (stp (hid HR.out.2) hb).out⟩)
          clear hb HR cy
          go_wp2
          go_roundw
          case rel => exact ⟨q + 1, by omega, by go_num, by rw [HT.out.1]; go_num, by rw [HT.out.2]; go_num, HR2.out⟩
          case measure => simp [intOf]; omega
        · obtain rfl : q = s := by omega
          go_wp2
          go_ret2
          exact ⟨by rw [HX.out.1, HX.out.2.1]; rfl, HR.out.2⟩
end Go.Proofs.Ytfmlefadifpocaa.B
