/-
  The reference's Longest, as a walk over the Go text.
-/
import Derived.Test.YthfneidbaiebhaaG3
namespace Go.Proofs.Ythfneidbaiebhaa.M
theorem farF_le (l : List I) : ∀ n i, farF l n i ≤ n := by
  intro n
  induction n with
  | zero => intro i; exact Nat.le_refl _
  | succ n ih =>
    intro i
    rw [farF]
    exact fold_le _ _ (by omega) fun j _ => by have := ih j; omega
theorem far_len (l : List I) (i : Nat) : far l i ≤ l.length := by
  have := farF_le l (l.length - i) i
  unfold far; omega
def foldT (l : List I) (js : List Nat) (q : Nat) : Nat := (js.take q).foldl (fun m j => max m (1 + far l j)) 1
theorem foldT_zero (l : List I) (js : List Nat) : foldT l js 0 = 1 := by simp [foldT]
theorem foldT_succ (l : List I) {js : List Nat} {q : Nat} (h : q < js.length) : foldT l js (q + 1) = max (foldT l js q) (1 + far l js[q]) := by
  unfold foldT
  rw [List.take_succ_eq_append_getElem h, List.foldl_append]
  rfl
theorem foldT_le (l : List I) (js : List Nat) (q : Nat) : foldT l js q ≤ l.length + 1 := by
  unfold foldT
  exact fold_le _ _ (by omega) fun j _ => by have := far_len l j; omega
end Go.Proofs.Ythfneidbaiebhaa.M
namespace Go.Proofs.Ythfneidbaiebhaa.B
open Go.ChangeShapes Go.WideShapes Go.ChangeAt Go.RowKit
open Go.Sort hiding Below
set_option linter.unusedVariables false

set_option maxHeartbeats 6400000 in
set_option maxRecDepth 1000000 in
theorem rlongest_any (b o n cap : Nat) (l : List M.I) (hln : l.length = n) (hn : n ≤ 65536) (ok : ∀ i ∈ l, M.okI i) (hr : M.right l) (w : World) (hl : Ly w b o l) :
    Calls Try.prog 19 #[.slice (some ⟨b, o, none⟩) n cap] w fun e w' => e = .returned (.int .i64 ((M.far l 0 : Nat) : Int)) ∧ Below w.heap.size w w' := by
  obtain ⟨i0, hi, hz0, hz1, hz2⟩ := info_parts infoi
  have h0 : 0 < n := by rw [← hln]; exact ((M.right_iff l).1 hr).1.1
  have i1 : (0 : Int) < (n : Int) := by omega
  have HH := hid (And.intro hln (And.intro ok (And.intro hl hr)))
  have hbl : b < w.heap.size := hl.1
  clear hln ok hl hr
  go_enter Try.func19, Try.ntmps19
  go_wp2_with (at_make; refine wpList_make_full _ rfl _ _ 24 rfl w.heap.size 3 i0 (.int .i64 0) 1 Try.underlying24 hi hz0 hz1 .i64 .i64 n n n rfl rfl rfl rfl ?c1 ?c2 (Nat.le_refl _) ?_)
  case c1 => rw [hz2]; omega
  case c2 => unfold maxLen; omega
  intro wm hown hgrow
  have hbm : Below w.heap.size w wm := (Below.refl _ _).grown hgrow (Nat.le_refl _) (by intro k hk; cases hk)
  have hR0 : Row wm w.heap.size n (fun j => .int .i64 ((if n ≤ j then M.far l j else 0 : Nat) : Int)) := (Row.of_own hown (fun j hj => made_get (.int .i64 0) n j hj) (hown.lt _ rfl).2).congr fun j hj => by rw [if_neg (by omega)]; rfl
  have HM := hid (And.intro hR0 hbm)
  clear hown hgrow hbm hR0
  go_wp2
  go_loopw [4] (fun i wr => ∃ k : Nat, k ≤ n ∧ i = .int .i64 ((k : Int) - 1) ∧ Hid (Row wr w.heap.size n (fun j => .int .i64 ((if k ≤ j then M.far l j else 0 : Nat) : Int)) ∧ Below w.heap.size w wr)) (fun i _ => (intOf i + 1).toNat)
  case atStart => exact ⟨n, Nat.le_refl _, by go_num, HM.out⟩
  case round =>
    clear HM
    obtain ⟨k, hk, rfl, HR⟩ := hrel
    cases k with
    | succ k =>
      rw [show ((k + 1 : Nat) : Int) - 1 = (k : Int) by omega] at *
      have i2 : (k : Int) < (n : Int) := by omega
      have hkl : k < l.length := by rw [HH.out.1]; omega
      have hlt : k < n := by omega
      obtain ⟨js, hjs⟩ : ∃ js, M.beh k (M.at0 l k) = js := ⟨_, rfl⟩
      have HN := hid (fun W h => rbehind_ly b o n cap k l HH.out.1 hn hkl HH.out.2.1 W h js hjs)
      have HJ := hid (show (∀ y ∈ js, k < y ∧ y < n) ∧ M.far l k = M.foldT l js js.length from
        ⟨fun y hy => by rw [← hjs] at hy; rw [← HH.out.1]; exact ⟨M.beh_gt hy, M.beh_lt HH.out.2.2.2 HH.out.2.1 hkl hy⟩, by rw [M.far_eq HH.out.2.2.2 HH.out.2.1 hkl, hjs]; unfold M.foldT; rw [List.take_length]⟩)
      have hlen : js.length ≤ 2 := by rw [← hjs]; exact M.beh_len _ _
      clear hjs
      obtain ⟨m, hm⟩ : ∃ m, js.length = m := ⟨_, rfl⟩
      rw [hm] at HN hlen
      have HMM := hid hm
      clear hm
      go_wp2_with fail
      refine (HN.out _ (HH.out.2.2.1.far HR.out.2 hbl)).mono ?_
      rintro e w3 ⟨a, ca, rfl, hnx, hfr, hb⟩
      have hR3 := HR.out.1.below hb
      have c0 := hR3.cell k hlt
      have f0 := hR3.froz k hlt
      have HI := hid (show Row (w3.setCell ⟨w.heap.size, k, none⟩ (.int .i64 1)) w.heap.size n (fun j => .int .i64 ((if k < j then M.far l j else if j = k then M.foldT l js 0 else 0 : Nat) : Int)) ∧ Below w.heap.size w (w3.setCell ⟨w.heap.size, k, none⟩ (.int .i64 1)) ∧ Nx (w3.setCell ⟨w.heap.size, k, none⟩ (.int .i64 1)) a js from
        ⟨(hR3.set k hlt _).congr (fun j hj => by
          by_cases e : j = k
          · subst e; rw [if_pos rfl, if_neg (by omega), if_pos rfl, M.foldT_zero]; rfl
          · rw [if_neg e]
            by_cases e2 : k < j
            · rw [if_pos e2, if_pos (by omega)]
            · rw [if_neg e2, if_neg (by omega), if_neg e]), (stp (hid HR.out.2) hb).out.setCell (Nat.le_refl _) _, hnx.off (fun A hA => by have := hfr A hA; have := HR.out.1.lt; omega)⟩)
      have HGN := hid (show ∀ A, a = some A → A.block ≠ w.heap.size from fun A hA => by have := hfr A hA; have := HR.out.1.lt; omega)
      clear hb hnx hfr HN HR hR3
      go_wp2
      generalize w3.setCell ⟨w.heap.size, k, none⟩ (.int .i64 1) = wz at *
      clear c0 f0
      go_loopw [6] (fun i wr => ∃ q : Nat, q ≤ m ∧ i = .int .i64 q ∧ Hid (Row wr w.heap.size n (fun j => .int .i64 ((if k < j then M.far l j else if j = k then M.foldT l js q else 0 : Nat) : Int)) ∧ Below w.heap.size w wr ∧ Nx wr a js)) (fun i _ => m - (intOf i).toNat)
      case atStart => exact ⟨0, Nat.zero_le _, rfl, HI.out⟩
      case round =>
        clear HI
        obtain ⟨q, hq, rfl, HQ⟩ := hrel
        by_cases hq2 : q < m
        · have i3 : (q : Int) < (m : Int) := by omega
          have hqj : q < js.length := by rw [HMM.out]; exact hq2
          obtain ⟨g', rfl⟩ : ∃ g', a = some ⟨g', 0, none⟩ := by
            rcases HQ.out.2.2 with h | ⟨g', e, _⟩
            · rw [h] at hqj; simp at hqj
            · exact ⟨g', e⟩
          have cy := nx_get HQ.out.2.2 q hqj
          obtain ⟨y, hy⟩ : ∃ y, js[q] = y := ⟨_, rfl⟩
          rw [hy] at cy
          obtain ⟨hky, hyn⟩ := HJ.out.1 y (by rw [← hy]; exact List.getElem_mem hqj)
          have i4 : (y : Int) < (n : Int) := by omega
          have HT := hid (show M.foldT l js (q + 1) = max (M.foldT l js q) (1 + M.far l y) by rw [M.foldT_succ l hqj, hy])
          have cY := HQ.out.1.cell y hyn
          simp only [if_pos hky] at cY
          have cK := HQ.out.1.cell k hlt
          simp only [if_neg (Nat.lt_irrefl k), if_true] at cK
          have fK := HQ.out.1.froz k hlt
          obtain ⟨x, hx⟩ : ∃ x, M.foldT l js q = x := ⟨_, rfl⟩
          obtain ⟨z, hzz⟩ : ∃ z, M.far l y = z := ⟨_, rfl⟩
          have hxb : x ≤ 65537 := by rw [← hx]; have := M.foldT_le l js q; rw [HH.out.1] at this; omega
          have hzb : z ≤ 65536 := by rw [← hzz]; have := M.far_len l y; rw [HH.out.1] at this; omega
          rw [hx] at cK
          rw [hzz] at cY
          rw [hx, hzz] at HT
          have HX := hid hx
          clear hy hx hzz
          go_wp2
          refine wp_region_still_tail 15 (by kernel_rfl) (by kernel_rfl) ?_
          change wpStill _ _ (World.drew wr) (fun a' => wpList _ _ _ _ a' (World.drew wr)) _ _
          simp only [List.take_succ_cons, List.take_zero, List.drop_succ_cons, List.drop_zero]
          repeat still_step
          refine wpStill_nil ?_
          go_wp2
          go_roundw
          case rel => exact ⟨q + 1, by omega, by go_num, ((HQ.out.1.set k hlt _).congr (fun j hj => by
            by_cases e : j = k
            · subst e
              rw [if_pos rfl, if_neg (Nat.lt_irrefl j), if_pos rfl, HT.out]
              have : (if (x : Int) < 1 + (z : Int) then 1 + (z : Int) else (x : Int)) = ((max x (1 + z) : Nat) : Int) := by
                split <;> omega
              rw [this]
            · rw [if_neg e, if_neg e, if_neg e])).below (Below.refl _ _).drew, (HQ.out.2.1.setCell (Nat.le_refl _) _).drew, (HQ.out.2.2.off HGN.out).below (Below.refl _ _).drew⟩
          case measure => simp [intOf]; omega
        · obtain rfl : q = m := by omega
          have HF := hid (show Row wr w.heap.size n (fun j => .int .i64 ((if k ≤ j then M.far l j else 0 : Nat) : Int)) from HQ.out.1.congr fun j _ => by
            by_cases e : j = k
            · subst e; rw [if_neg (Nat.lt_irrefl j), if_pos rfl, if_pos (Nat.le_refl j), HJ.out.2, HMM.out]
            · by_cases e2 : k < j
              · rw [if_pos e2, if_pos (by omega)]
              · rw [if_neg e2, if_neg e, if_neg (by omega)])
          go_wp2
          go_roundw
          case rel => exact ⟨k, by omega, by go_num, HF.out, HQ.out.2.1⟩
          case measure => simp [intOf]
    | zero =>
      have c0 := HR.out.1.cell 0 h0
      simp only [Nat.le_refl, if_true] at c0
      obtain ⟨v, hv⟩ : ∃ v, M.far l 0 = v := ⟨_, rfl⟩
      have HV := hid hv
      rw [hv] at c0
      clear hv
      go_wp2
      go_ret
      exact ⟨by rw [HV.out]; rfl, HR.out.2⟩
end Go.Proofs.Ythfneidbaiebhaa.B
namespace Go.Proofs.Ythfneidbaiebhaa.B
open Go.ChangeShapes Go.WideShapes Go.ChangeAt Go.RowKit
open Go.Sort hiding Below
set_option linter.unusedVariables false

set_option maxHeartbeats 3200000 in
set_option maxRecDepth 1000000 in
theorem same_ints (a b : Option Addr) (js ks : List Nat) (n m ca cb : Nat) (hjn : js.length = n) (hkm : ks.length = m) (hn : n ≤ 100000) (hm : m ≤ 100000) (w : World) (hA : Nx w a js) (hB : Nx w b ks) :
    Calls Try.prog 11 #[.slice a n ca, .slice b m cb] w fun e w' => e = .returned (.bool (decide (js = ks))) ∧ Below w.heap.size w w' := by
  have HB := hid (Below.refl w.heap.size w)
  by_cases hlen : n = m
  · subst hlen
    have HX := hid (And.intro hA (And.intro hB (And.intro hjn hkm)))
    have hne : ((n : Int) != (n : Int)) = false := by simp
    clear hA hB hjn hkm
    go_enter Try.func11, Try.ntmps11
    go_wp2
    go_loopw [13] (fun i wr => ∃ k q : Nat, k ≤ n ∧ i = .int .i64 k ∧ wr = w.drewN q ∧ Hid (∀ i, i < k → js[i]? = ks[i]?)) (fun i _ => n - (intOf i).toNat)
    case atStart => exact ⟨0, 0, Nat.zero_le _, rfl, rfl, fun i hi => by omega⟩
    case round =>
      obtain ⟨k, q, hk, rfl, rfl, HR⟩ := hrel
      by_cases hlt : k < n
      · have i1 : (k : Int) < (n : Int) := by omega
        have hkj : k < js.length := by rw [HX.out.2.2.1]; exact hlt
        have hkk : k < ks.length := by rw [HX.out.2.2.2]; exact hlt
        obtain ⟨g, rfl⟩ : ∃ g', a = some ⟨g', 0, none⟩ := by
          rcases HX.out.1 with h | ⟨g', e, _⟩
          · rw [h] at hkj; simp at hkj
          · exact ⟨g', e⟩
        obtain ⟨g2, rfl⟩ : ∃ g', b = some ⟨g', 0, none⟩ := by
          rcases HX.out.2.1 with h | ⟨g', e, _⟩
          · rw [h] at hkk; simp at hkk
          · exact ⟨g', e⟩
        have c1 := nx_get HX.out.1 k hkj
        have c2 := nx_get HX.out.2.1 k hkk
        obtain ⟨x, hx⟩ : ∃ x, js[k] = x := ⟨_, rfl⟩
        obtain ⟨y, hy⟩ : ∃ y, ks[k] = y := ⟨_, rfl⟩
        rw [hx] at c1
        rw [hy] at c2
        have HE := hid (show js[k]? = some x ∧ ks[k]? = some y from ⟨by rw [List.getElem?_eq_getElem hkj, hx], by rw [List.getElem?_eq_getElem hkk, hy]⟩)
        clear hx hy hkj hkk
        by_cases hxy : x = y
        · subst hxy
          have d1 : ((x : Int) != (x : Int)) = false := by simp
          go_wp2
          go_quiet (fail)
          go_wp2
          go_roundw
          case rel => exact ⟨k + 1, _, by omega, by go_num, rfl, fun i hi => by
            by_cases e : i = k
            · subst e; rw [HE.out.1, HE.out.2]
            · exact HR.out i (by omega)⟩
          case measure => simp [intOf]; omega
        · have d1 : ((x : Int) != (y : Int)) = true := by simp; omega
          have HF := hid (show decide (js = ks) = false from decide_eq_false fun e => by
            have h1 := HE.out.1
            rw [e, HE.out.2] at h1
            exact hxy (by injection h1 with h1; exact h1.symm))
          clear hxy
          go_wp2
          go_quiet (fail)
          go_wp2
          go_ret
          exact ⟨by rw [HF.out]; rfl, bdrew (bdrew HB.out _) _⟩
      · obtain rfl : k = n := by omega
        have HF := hid (show decide (js = ks) = true from decide_eq_true (List.ext_getElem? fun i => by
          by_cases hi : i < k
          · exact HR.out i hi
          · rw [List.getElem?_eq_none (by rw [HX.out.2.2.1]; omega), List.getElem?_eq_none (by rw [HX.out.2.2.2]; omega)]))
        go_wp2
        go_ret
        exact ⟨by rw [HF.out]; rfl, bdrew HB.out _⟩
  · have hne : ((n : Int) != (m : Int)) = true := by simp; omega
    have HF := hid (show decide (js = ks) = false from decide_eq_false fun e => hlen (by rw [← hjn, ← hkm, e]))
    clear hA hB hjn hkm
    go_enter Try.func11, Try.ntmps11
    go_wp2
    go_ret
    exact ⟨by rw [HF.out]; rfl, HB.out⟩

set_option maxHeartbeats 3200000 in
set_option maxRecDepth 1000000 in
theorem rstops_any (b o n cap g i : Nat) (l : List M.I) (hln : l.length = n) (hn : n ≤ 65536) (hi : i < l.length) (ok : ∀ x ∈ l, M.okI x) (hr : M.right l) (w : World) (hl : Ly w b o l) (hg : Row w g n (fun j => .bool (M.lead l j))) :
    Calls Try.prog 38 #[.slice (some ⟨b, o, none⟩) n cap, .slice (some ⟨g, 0, none⟩) n n, .int .i64 i] w fun e w' => e = .returned (.bool (M.stp l i)) ∧ Below w.heap.size w w' := by
  obtain ⟨x, hx⟩ : ∃ x, l[i] = x := ⟨_, rfl⟩
  have hq : LiesAt w b o i x := by rw [← hx]; exact hl.2 i hi
  have hok : M.okI x := hx ▸ ok _ (List.getElem_mem hi)
  have h0x : M.at0 l i = x := by rw [M.at0_eq hi]; exact hx
  have i1 : (i : Int) < (n : Int) := by omega
  have HG := hid hg
  have HS := hid (show M.stp l i = (!M.goesOn x || M.lead l (i + 1)) by unfold M.stp; rw [h0x])
  have HL := hid (show M.goesOn x = true → i + 1 < n by
    intro h
    have := M.beh_lt hr ok hi (j := i + 1) (by rw [h0x, M.beh_on h]; simp)
    omega)
  clear hx h0x ok hr hl hg
  obtain ⟨c, t, f, d⟩ := x
  obtain ⟨q0, q1, q2, q3⟩ := hq
  simp only at q0 q1 q2 q3
  have hbk := hid hok.1
  clear hok
  have HC := hid (M.goesOn_iff (x := (c, t, f, d)))
  go_enter Try.func38, Try.ntmps38
  go_wp2_with fail
  refine (rkind_any _ hbk.out.1 hbk.out.2 _).mono ?_
  rintro e w2 ⟨rfl, hb⟩
  have HB := hid hb
  have HG2 := hid (HG.out.below hb)
  clear hb q0 q1 q2 q3 HG
  obtain ⟨v, hv⟩ : ∃ v, M.kind c = v := ⟨_, rfl⟩
  rw [hv]
  by_cases h1 : 11 ≤ v
  · have d1 : decide ((11 : Int) ≤ v) = true := decide_eq_true h1
    by_cases h2 : v ≤ 14
    · have d2 : decide (v ≤ (14 : Int)) = true := decide_eq_true h2
      have HF := hid (show M.stp l i = true by
        rw [HS.out]
        have : M.goesOn (c, t, f, d) = false := by
          cases hgo : M.goesOn (c, t, f, d) with
          | false => rfl
          | true => exact absurd ⟨by omega, by omega⟩ (HC.out.1 hgo)
        rw [this]; rfl)
      clear h1 h2 hv
      go_wp2
      go_ret
      exact ⟨by rw [HF.out]; rfl, HB.out⟩
    · have d2 : decide (v ≤ (14 : Int)) = false := decide_eq_false h2
      have hgo : M.goesOn (c, t, f, d) = true := HC.out.2 (by omega)
      have hi2 := HL.out hgo
      have cl := HG2.out.cell (i + 1) hi2
      obtain ⟨r, hrr⟩ : ∃ r, M.lead l (i + 1) = r := ⟨_, rfl⟩
      rw [hrr] at cl
      have i2 : (i : Int) + 1 < (n : Int) := by omega
      have i3 : 0 ≤ (i : Int) + 1 := by omega
      have HF := hid (show M.stp l i = r by rw [HS.out, hgo, hrr]; rfl)
      clear h1 h2 hv hgo hrr
      go_wp2
      go_ret
      exact ⟨by rw [HF.out]; rfl, HB.out⟩
  · have d1 : decide ((11 : Int) ≤ v) = false := decide_eq_false h1
    have hgo : M.goesOn (c, t, f, d) = true := HC.out.2 (by omega)
    have hi2 := HL.out hgo
    have cl := HG2.out.cell (i + 1) hi2
    obtain ⟨r, hrr⟩ : ∃ r, M.lead l (i + 1) = r := ⟨_, rfl⟩
    rw [hrr] at cl
    have i2 : (i : Int) + 1 < (n : Int) := by omega
    have i3 : 0 ≤ (i : Int) + 1 := by omega
    have HF := hid (show M.stp l i = r by rw [HS.out, hgo, hrr]; rfl)
    clear h1 hv hgo hrr
    go_wp2
    go_ret
    exact ⟨by rw [HF.out]; rfl, HB.out⟩
end Go.Proofs.Ythfneidbaiebhaa.B
