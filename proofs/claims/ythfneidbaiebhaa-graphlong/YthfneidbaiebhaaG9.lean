/-
  Where a block ends, and the longest way, as walks over the Go text.
-/
import Derived.Test.YthfneidbaiebhaaG8
namespace Go.Proofs.Ythfneidbaiebhaa.M
/-- the longest of the ways from the first q of some places -/
def foldZ (l : List I) (js : List Nat) (q : Nat) : Nat := (js.take q).foldl (fun m j => max m (far l j)) 0
theorem foldZ_zero (l : List I) (js : List Nat) : foldZ l js 0 = 0 := by simp [foldZ]
theorem foldZ_succ (l : List I) {js : List Nat} {q : Nat} (h : q < js.length) : foldZ l js (q + 1) = max (foldZ l js q) (far l js[q]) := by
  unfold foldZ
  rw [List.take_succ_eq_append_getElem h, List.foldl_append]
  rfl
theorem fold_one (f : Nat → Nat) : ∀ (js : List Nat) (m : Nat), js.foldl (fun m j => max m (1 + f j)) (1 + m) = 1 + js.foldl (fun m j => max m (f j)) m := by
  intro js
  induction js with
  | nil => intro m; rfl
  | cons j js ih =>
    intro m
    simp only [List.foldl_cons]
    rw [show max (1 + m) (1 + f j) = 1 + max m (f j) by omega]
    exact ih _
theorem foldZ_all (l : List I) (js : List Nat) : foldT l js js.length = foldZ l js js.length + 1 := by
  unfold foldT foldZ
  rw [List.take_length, Nat.add_comm]
  exact fold_one (far l) js 0
theorem foldZ_le (l : List I) (js : List Nat) (q : Nat) : foldZ l js q ≤ l.length := by
  unfold foldZ
  generalize js.take q = ks
  have : ∀ (ks : List Nat) (m : Nat), m ≤ l.length → ks.foldl (fun m j => max m (far l j)) m ≤ l.length := by
    intro ks
    induction ks with
    | nil => intro m h; exact h
    | cons j ks ih =>
      intro m h
      simp only [List.foldl_cons]
      have := far_len l j
      exact ih _ (by omega)
  exact this ks 0 (Nat.zero_le _)
end Go.Proofs.Ythfneidbaiebhaa.M
namespace Go.Proofs.Ythfneidbaiebhaa.B
open Go.ChangeShapes Go.WideShapes Go.ChangeAt Go.RowKit
open Go.Sort hiding Below
set_option linter.unusedVariables false

set_option maxHeartbeats 3200000 in
set_option maxRecDepth 1000000 in
theorem last_any (b o n cap g k : Nat) (l : List M.I) (hln : l.length = n) (hn : n ≤ 4096) (hk : k < n) (ok : ∀ x ∈ l, M.okI x) (hr : M.right l) (w : World) (hl : Ly w b o l) (hg : Row w g n (fun j => .bool (M.lead l j))) (tt : Nat) (htt : M.toOf l k = tt) :
    Calls Try.prog 35 #[.slice (some ⟨b, o, none⟩) n cap, .slice (some ⟨g, 0, none⟩) n n, .int .i64 k] w fun e w' => e = .returned (.int .i64 (tt : Int)) ∧ Below w.heap.size w w' := by
  have HT := hid (M.toOf_spec hr (show k < l.length by omega))
  rw [htt] at HT
  have HL := hid (fun (i : Nat) (hi : i < l.length) (h : M.goesOn (M.at0 l i) = true) => (show i + 1 < n by
    have := M.beh_lt hr ok hi (j := i + 1) (by rw [M.beh_on h]; simp)
    omega))
  have HH := hid (And.intro hln (And.intro hl hg))
  have HB0 := hid (Below.refl w.heap.size w)
  clear hln ok hr hl hg htt
  go_enter Try.func35, Try.ntmps35
  go_wp2
  go_loopw [2] (fun i wr => ∃ t : Nat, k ≤ t ∧ t ≤ tt ∧ i = .int .i64 t ∧ Hid (Below w.heap.size w wr)) (fun i _ => n - (intOf i).toNat)
  case atStart => exact ⟨k, Nat.le_refl _, HT.out.1, rfl, HB0.out⟩
  case round =>
    clear HB0
    obtain ⟨t, ht1, ht2, rfl, HB⟩ := hrel
    have htl : t < l.length := by have := HT.out.2.1; omega
    have htn : t < n := by rw [← HH.out.1]; exact htl
    have i2 : (t : Int) < (n : Int) := by omega
    obtain ⟨x, hx⟩ : ∃ x, l[t] = x := ⟨_, rfl⟩
    have h0x : M.at0 l t = x := by rw [M.at0_eq htl]; exact hx
    have HQ := hid (fun W (hb : Below wr.heap.size wr W) => (by rw [← hx]; exact (HH.out.2.1.below (stp HB hb).out).2 t htl : LiesAt W b o t x))
    have HG := hid (fun W (hb : Below wr.heap.size wr W) => HH.out.2.2.below (stp HB hb).out)
    have hst : M.stp l t = (!M.goesOn x || M.lead l (t + 1)) := by unfold M.stp; rw [h0x]
    have hon := HL.out t htl
    rw [h0x] at hon
    have HS := hid (show M.stp l t = true → t = tt from fun h => by
      by_cases e : t = tt
      · exact e
      · rw [HT.out.2.2.2 t ht1 (by omega)] at h; cases h)
    have HS2 := hid (show M.stp l t = false → t + 1 ≤ tt from fun h => by
      by_cases e : t = tt
      · subst e; rw [HT.out.2.2.1] at h; cases h
      · omega)
    rw [hst] at HS HS2
    clear hx h0x hst htl
    obtain ⟨c, jt, jf, d⟩ := x
    obtain ⟨q0, q1, q2, q3⟩ := HQ.out wr (Below.refl _ _)
    simp only at q0 q1 q2 q3
    have hE := fun W => ends_any c W
    obtain ⟨eb, heb⟩ : ∃ eb, M.ends c = eb := ⟨_, rfl⟩
    rw [heb] at hE
    have HE := hid hE
    clear hE
    cases eb with
    | true =>
      have hgo := M.ends_go (t := jt) (f := jf) (k := d) heb
      rw [hgo] at HS
      obtain rfl := HS.out rfl
      clear hgo heb HS HS2 hon
      go_wp2_with fail
      refine (HE.out _).mono ?_
      rintro e w2 ⟨rfl, rfl⟩
      go_wp2
      go_ret
      exact ⟨rfl, HB.out⟩
    | false =>
      have hJ := fun W => jumps_any c jt jf d W
      obtain ⟨jb, hjb⟩ : ∃ jb, M.isJ (c, jt, jf, d) = jb := ⟨_, rfl⟩
      rw [hjb] at hJ
      have HJ := hid hJ
      clear hJ
      cases jb with
      | true =>
        have hgo := M.isJ_go hjb
        rw [hgo] at HS
        obtain rfl := HS.out rfl
        clear hgo heb HS HS2 hon hjb
        go_wp2_with fail
        refine (HE.out _).mono ?_
        rintro e w2 ⟨rfl, rfl⟩
        go_wp2_with fail
        refine (HJ.out _).mono ?_
        rintro e w3 ⟨rfl, hb⟩
        replace HB := stp HB hb
        clear hb
        go_wp2
        go_ret
        exact ⟨rfl, HB.out⟩
      | false =>
        have hgo := M.on_go heb hjb
        have hi2 := hon hgo
        rw [hgo] at HS HS2
        obtain ⟨r, hrr⟩ : ∃ r, M.lead l (t + 1) = r := ⟨_, rfl⟩
        rw [hrr] at HS HS2
        have HG2 := hid (fun W (hb : Below wr.heap.size wr W) => (by have := (HG.out W hb).cell (t + 1) hi2; rw [hrr] at this; exact this : W.cell? ⟨g, t + 1, none⟩ = some (.bool r)))
        have i3 : (t : Int) + 1 < (n : Int) := by omega
        have i4 : 0 ≤ (t : Int) + 1 := by omega
        clear hgo heb hon hjb hrr
        cases r with
        | true =>
          obtain rfl := HS.out rfl
          clear HS HS2
          go_wp2_with fail
          refine (HE.out _).mono ?_
          rintro e w2 ⟨rfl, rfl⟩
          go_wp2_with fail
          refine (HJ.out _).mono ?_
          rintro e w3 ⟨rfl, hb⟩
          have cl := HG2.out _ hb
          replace HB := stp HB hb
          clear hb q0 q1 q2 q3
          go_wp2
          go_ret
          exact ⟨rfl, HB.out⟩
        | false =>
          have hle := HS2.out rfl
          clear HS HS2
          go_wp2_with fail
          refine (HE.out _).mono ?_
          rintro e w2 ⟨rfl, rfl⟩
          go_wp2_with fail
          refine (HJ.out _).mono ?_
          rintro e w3 ⟨rfl, hb⟩
          have cl := HG2.out _ hb
          replace HB := stp HB hb
          clear hb q0 q1 q2 q3
          go_wp2
          go_roundw
          case rel => exact ⟨t + 1, by omega, by omega, by go_num, HB.out⟩
          case measure => simp [intOf]; omega

set_option maxHeartbeats 1600000 in
set_option maxRecDepth 100000 in
theorem glongest_bad (a : Option Addr) (n cap : Nat) (l : List M.I) (hln : l.length = n) (hn : n ≤ 65536) (ok : ∀ i ∈ l, M.okI i) (w : World) (hl : Lies w a l) (hb : M.rightB l = false) :
    Calls Try.prog 15 #[.slice a n cap] w fun e w' => e = .returned (.tuple #[.int .i64 0, .int .i64 1]) ∧ Below w.heap.size w w' := by
  have HC := hid (right_any a n cap l hln (by omega) ok w hl false hb)
  clear hl ok hb
  go_enter Try.func15, Try.ntmps15
  go_wp2_with fail
  refine HC.out.mono ?_
  rintro e w1 ⟨rfl, hb⟩
  have HB := hid hb
  clear hb HC
  go_wp2
  go_ret2
  exact ⟨rfl, HB.out⟩

set_option maxHeartbeats 6400000 in
set_option maxRecDepth 1000000 in
theorem glongest_any (b o n cap : Nat) (l : List M.I) (hln : l.length = n) (hn : n ≤ 4096) (ok : ∀ i ∈ l, M.okI i) (hr : M.right l) (w : World) (hl : Ly w b o l) :
    Calls Try.prog 15 #[.slice (some ⟨b, o, none⟩) n cap] w fun e w' => e = .returned (.tuple #[.int .i64 ((M.far l 0 : Nat) : Int), .int .i64 0]) ∧ Below w.heap.size w w' := by
  obtain ⟨i0, hi, hz0, hz1, hz2⟩ := info_parts infoi
  have h0 : 0 < n := by rw [← hln]; exact ((M.right_iff l).1 hr).1.1
  have i1 : (0 : Int) < (n : Int) := by omega
  have HC := hid (right_any (some ⟨b, o, none⟩) n cap l hln (by omega) ok w hl.lies true (M.right_of.2 hr))
  have HH := hid (And.intro hln (And.intro ok (And.intro hl hr)))
  have hbl : b < w.heap.size := hl.1
  clear hln ok hl hr
  go_enter Try.func15, Try.ntmps15
  go_wp2_with fail
  refine HC.out.mono ?_
  rintro e w1 ⟨rfl, hb⟩
  have HB1 := hid hb
  clear hb HC
  go_wp2_with (at_make; refine wpList_make_full _ rfl _ _ 24 rfl w1.heap.size 3 i0 (.int .i64 0) 1 Try.underlying24 hi hz0 hz1 .i64 .i64 n n n rfl rfl rfl rfl ?c1 ?c2 (Nat.le_refl _) ?_)
  case c1 => rw [hz2]; omega
  case c2 => unfold maxLen; omega
  intro wm hown hgrow
  have hbm : Below w1.heap.size w1 wm := (Below.refl _ _).grown hgrow (Nat.le_refl _) (by intro k hk; cases hk)
  have hR0 : Row wm w1.heap.size n (fun j => .int .i64 ((if n ≤ j then M.far l j else 0 : Nat) : Int)) := (Row.of_own hown (fun j hj => made_get (.int .i64 0) n j hj) (hown.lt _ rfl).2).congr fun j hj => by rw [if_neg (by omega)]; rfl
  have hw1 := HB1.out.size
  have HM := hid (And.intro hR0 (stp HB1 hbm).out)
  clear hown hgrow hbm hR0 HB1
  go_wp2
  go_loopw [5] (fun i wr => ∃ k : Nat, k ≤ n ∧ i = .int .i64 ((k : Int) - 1) ∧ Hid (Row wr w1.heap.size n (fun j => .int .i64 ((if k ≤ j then M.far l j else 0 : Nat) : Int)) ∧ Below w.heap.size w wr)) (fun i _ => (intOf i + 1).toNat)
  case atStart => exact ⟨n, Nat.le_refl _, by go_num, HM.out⟩
  case round =>
    clear HM
    obtain ⟨k, hk, rfl, HR⟩ := hrel
    cases k with
    | succ k =>
      rw [show ((k + 1 : Nat) : Int) - 1 = (k : Int) by omega] at *
      have i2 : (k : Int) < (n : Int) := by omega
      have hkl : k < l.length := by rw [HH.out.1]; omega
      have hlt : k < n := by omega
      obtain ⟨js, hjs⟩ : ∃ js, M.beh k (M.at0 l k) = js := ⟨_, rfl⟩
      have HN := hid (fun W h => gnext_ly b o n cap k l HH.out.1 hn hkl HH.out.2.1 HH.out.2.2.2 W h js hjs)
      have HJ := hid (show (∀ y ∈ js, k < y ∧ y < n) ∧ M.far l k = M.foldZ l js js.length + 1 from
        ⟨fun y hy => by rw [← hjs] at hy; rw [← HH.out.1]; exact ⟨M.beh_gt hy, M.beh_lt HH.out.2.2.2 HH.out.2.1 hkl hy⟩, by rw [M.far_eq HH.out.2.2.2 HH.out.2.1 hkl, hjs, ← M.foldZ_all]; unfold M.foldT; rw [List.take_length]⟩)
      have hlen : js.length ≤ 2 := by rw [← hjs]; exact M.beh_len _ _
      clear hjs
      obtain ⟨m, hm⟩ : ∃ m, js.length = m := ⟨_, rfl⟩
      rw [hm] at HN hlen
      have HMM := hid hm
      clear hm
      go_wp2_with fail
      refine (HN.out _ (HH.out.2.2.1.far HR.out.2 hbl)).mono ?_
      rintro e w3 ⟨a, ca, rfl, hnx, hfr, hb⟩
      have hR3 := HR.out.1.below hb
      have HI := hid (show Row w3 w1.heap.size n (fun j => .int .i64 ((if k < j then M.far l j else if j = k then M.foldZ l js 0 else 0 : Nat) : Int)) ∧ Below w.heap.size w w3 ∧ Nx w3 a js from
        ⟨hR3.congr (fun j hj => by
          by_cases e : j = k
          · subst e; rw [if_neg (show ¬ j + 1 ≤ j by omega), if_neg (by omega), if_pos rfl, M.foldZ_zero]
          · by_cases e2 : k < j
            · rw [if_pos e2, if_pos (show k + 1 ≤ j by omega)]
            · rw [if_neg e2, if_neg (show ¬ k + 1 ≤ j by omega), if_neg e]), (stp (hid HR.out.2) hb).out, hnx⟩)
      have HGN := hid (show ∀ A, a = some A → A.block ≠ w1.heap.size from fun A hA => by have := hfr A hA; have := HR.out.1.lt; omega)
      clear hb hnx hfr HN HR hR3
      go_wp2
      go_loopw [25] (fun i wr => ∃ q : Nat, q ≤ m ∧ i = .int .i64 q ∧ Hid (Row wr w1.heap.size n (fun j => .int .i64 ((if k < j then M.far l j else if j = k then M.foldZ l js q else 0 : Nat) : Int)) ∧ Below w.heap.size w wr ∧ Nx wr a js)) (fun i _ => m - (intOf i).toNat)
      case atStart => exact ⟨0, Nat.zero_le _, rfl, HI.out⟩
      case round =>
        clear HI
        obtain ⟨q, hq, rfl, HQ⟩ := hrel
        by_cases hq2 : q < m
        · have i3 : (q : Int) < (m : Int) := by omega
          have hqj : q < js.length := by rw [HMM.out]; exact hq2
          obtain ⟨g', rfl⟩ : ∃ g', a = some ⟨g', 0, none⟩ := by
            rcases HQ.out.2.2 with h | ⟨g', e, _⟩
            · rw [h] at hqj; simp at hqj
            · exact ⟨g', e⟩
          have cy := nx_get HQ.out.2.2 q hqj
          obtain ⟨y, hy⟩ : ∃ y, js[q] = y := ⟨_, rfl⟩
          rw [hy] at cy
          obtain ⟨hky, hyn⟩ := HJ.out.1 y (by rw [← hy]; exact List.getElem_mem hqj)
          have i4 : (y : Int) < (n : Int) := by omega
          have HT := hid (show M.foldZ l js (q + 1) = max (M.foldZ l js q) (M.far l y) by rw [M.foldZ_succ l hqj, hy])
          have cY := HQ.out.1.cell y hyn
          simp only [if_pos hky] at cY
          have cK := HQ.out.1.cell k hlt
          simp only [if_neg (Nat.lt_irrefl k), if_true] at cK
          have fK := HQ.out.1.froz k hlt
          obtain ⟨x, hx⟩ : ∃ x, M.foldZ l js q = x := ⟨_, rfl⟩
          obtain ⟨z, hzz⟩ : ∃ z, M.far l y = z := ⟨_, rfl⟩
          have hxb : x ≤ 65537 := by rw [← hx]; have := M.foldZ_le l js q; rw [HH.out.1] at this; omega
          have hzb : z ≤ 65536 := by rw [← hzz]; have := M.far_len l y; rw [HH.out.1] at this; omega
          rw [hx] at cK
          rw [hzz] at cY
          rw [hx, hzz] at HT
          have HX := hid hx
          clear hy hx hzz
          go_wp2
          refine wp_region_still_tail 11 (by kernel_rfl) (by kernel_rfl) ?_
          change wpStill _ _ (World.drew wr) (fun a' => wpList _ _ _ _ a' (World.drew wr)) _ _
          simp only [List.take_succ_cons, List.take_zero, List.drop_succ_cons, List.drop_zero]
          repeat still_step
          refine wpStill_nil ?_
          go_wp2
          go_roundw
          case rel => exact ⟨q + 1, by omega, by go_num, ((HQ.out.1.set k hlt _).congr (fun j hj => by
            by_cases e : j = k
            · subst e
              rw [if_pos rfl, if_neg (Nat.lt_irrefl j), if_pos rfl, HT.out]
              have : (if x < z then (z : Int) else (x : Int)) = ((max x z : Nat) : Int) := by
                split <;> omega
              rw [this]
            · rw [if_neg e, if_neg e, if_neg e])).below (Below.refl _ _).drew, (HQ.out.2.1.setCell hw1 _).drew, (HQ.out.2.2.off HGN.out).below (Below.refl _ _).drew⟩
          case measure => simp [intOf]; omega
        · obtain rfl : q = m := by omega
          have cK := HQ.out.1.cell k hlt
          simp only [if_neg (Nat.lt_irrefl k), if_true] at cK
          have fK := HQ.out.1.froz k hlt
          obtain ⟨x, hx⟩ : ∃ x, M.foldZ l js q = x := ⟨_, rfl⟩
          have hxb : x ≤ 65537 := by rw [← hx]; have := M.foldZ_le l js q; rw [HH.out.1] at this; omega
          rw [hx] at cK
          have HX := hid (show M.far l k = x + 1 by rw [HJ.out.2, HMM.out, hx])
          clear hx
          have HF := hid (show Row (wr.setCell ⟨w1.heap.size, k, none⟩ (.int .i64 ((x : Int) + 1))) w1.heap.size n (fun j => .int .i64 ((if k ≤ j then M.far l j else 0 : Nat) : Int)) ∧ Below w.heap.size w (wr.setCell ⟨w1.heap.size, k, none⟩ (.int .i64 ((x : Int) + 1))) from
            ⟨(HQ.out.1.set k hlt _).congr (fun j _ => by
              by_cases e : j = k
              · subst e; rw [if_pos rfl, if_pos (Nat.le_refl j), HX.out]; rfl
              · rw [if_neg e]
                by_cases e2 : k < j
                · rw [if_pos e2, if_pos (by omega)]
                · rw [if_neg e2, if_neg e, if_neg (by omega)]), HQ.out.2.1.setCell hw1 _⟩)
          clear HQ
          go_wp2
          go_roundw
          case rel => exact ⟨k, by omega, by go_num, HF.out⟩
          case measure => simp [intOf]
    | zero =>
      have c0 := HR.out.1.cell 0 h0
      simp only [Nat.le_refl, if_true] at c0
      obtain ⟨v, hv⟩ : ∃ v, M.far l 0 = v := ⟨_, rfl⟩
      have HV := hid hv
      rw [hv] at c0
      clear hv
      go_wp2
      go_ret2
      exact ⟨by rw [HV.out]; rfl, HR.out.2⟩
end Go.Proofs.Ythfneidbaiebhaa.B
