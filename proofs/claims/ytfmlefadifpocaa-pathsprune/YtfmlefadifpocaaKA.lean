/-
  The program's numbers of ways: what is held, what is behind a place, as walks over the Go text.
-/
import Derived.Test.YtfmlefadifpocaaJY
import Derived.Test.YtfmlefadifpocaaJC
import Derived.Deep.RegionLaw
import Derived.Test.YtfmlefadifpocaaJZ
namespace Go.Proofs.Ytfmlefadifpocaa.M
theorem held_sum (f : Nat → Nat) (js : List Nat) (q : Nat) : held (sumT (fun j => held (f j)) js q) = held (sumT f js q) := by
  unfold sumT
  induction js.take q with
  | nil => rfl
  | cons a t ih =>
    simp only [List.map_cons, List.sum_cons]
    generalize (t.map fun j => held (f j)).sum = A at *
    generalize (t.map f).sum = B at *
    unfold held at *
    omega
theorem held_base (a : Nat) (f : Nat → Nat) (js : List Nat) (q : Nat) : held (held a + sumT (fun j => held (f j)) js q) = held (a + sumT f js q) := by
  have h := held_sum f js q
  generalize sumT (fun j => held (f j)) js q = A at *
  generalize sumT f js q = B at *
  unfold held at *
  omega
theorem sumT_bound (f : Nat → Nat) (js : List Nat) (h2 : js.length ≤ 2) (c : Nat) (hf : ∀ j, f j ≤ c) (q : Nat) : sumT f js q ≤ 2 * c := by
  have h1 := sumT_le f js q
  have h3 : (js.map f).sum ≤ 2 * c := by
    match js, h2 with
    | [], _ => simp
    | [a], _ => have := hf a; simp; omega
    | [a, b], _ => have := hf a; have := hf b; simp; omega
  omega
/-- what the program tells of a place: one at least -/
theorem from_eq {l : List I} (hr : right l) (ok : ∀ x ∈ l, okI x) {k : Nat} (hk : k < l.length) {js : List Nat} (hjs : beh k (at0 l k) = js) :
    max 1 (held (sumT (fun j => held (ways l j)) js js.length)) = held (ways l k) := by
  have hp := ways_pos hr ok l.length k hk (by omega)
  rw [held_sum, ← hjs, sumT_all]
  have hw := ways_eq hr ok hk
  by_cases e : rets (at0 l k) = true
  · rw [if_pos e] at hw
    rw [bsum_ret e, hw]; rfl
  · rw [if_neg e] at hw
    rw [← hw]
    generalize ways l k = A at *
    unfold held; omega
theorem work_held {l : List I} (hr : right l) (ok : ∀ x ∈ l, okI x) {k : Nat} (hk : k < l.length) {js : List Nat} (hjs : beh k (at0 l k) = js) :
    held (held (ways l k) + sumT (fun j => held (work l j)) js js.length) = held (work l k) := by
  rw [held_base, ← hjs, sumT_all, ← work_eq hr ok hk]
end Go.Proofs.Ytfmlefadifpocaa.M
namespace Go.Proofs.Ytfmlefadifpocaa.B
open Go.ChangeShapes Go.WideShapes Go.ChangeAt Go.RowKit
open Go.Sort hiding Below
set_option linter.unusedVariables false

set_option maxHeartbeats 1600000 in
set_option maxRecDepth 100000 in
theorem cheld (x : Nat) (P : Int) (hP : P = x) (w : World) :
    Calls Try.prog 20 #[.int .u64 P] w fun e w' => e = .returned (.int .u64 ((M.held x : Nat) : Int)) ∧ w' = w := by
  subst hP
  have HS := hid (show ∀ y, M.held x = y → ((if x < 1125899906842624 then (x : Int) else 1125899906842624) = (y : Int)) from fun y h => by rw [← h]; unfold M.held; split <;> omega)
  rcases Nat.lt_trichotomy x 1125899906842624 with h | h | h
  · have d1 : (x : Int) < 1125899906842624 := by omega
    have d2 : ¬ (1125899906842624 : Int) < (x : Int) := by omega
    have HF := hid (show M.held x = x by unfold M.held; omega)
    clear h
    go_enter Try.func20, Try.ntmps20
    go_wp2
    go_ret
    exact ⟨by rw [HF.out]; rfl, rfl⟩
  · subst h
    have HF := hid (show M.held 1125899906842624 = 1125899906842624 by unfold M.held; omega)
    go_enter Try.func20, Try.ntmps20
    go_wp2
    go_ret
    exact ⟨by rw [HF.out]; rfl, rfl⟩
  · have d1 : (1125899906842624 : Int) < (x : Int) := by omega
    have d2 : ¬ (x : Int) < 1125899906842624 := by omega
    have d3 : 1125899906842624 ≤ x := by omega
    have HF := hid (show M.held x = 1125899906842624 by unfold M.held; omega)
    clear h
    go_enter Try.func20, Try.ntmps20
    go_wp2
    all_goals go_ret
    all_goals first
      | exact ⟨by rw [HF.out]; rfl, rfl⟩
      | (exfalso; omega)

set_option maxHeartbeats 6400000 in
set_option maxRecDepth 1000000 in
theorem cbehind (b o n cap k : Nat) (l : List M.I) (hln : l.length = n) (hn : n ≤ 4096) (hk : k < l.length) (ok : ∀ i ∈ l, M.okI i) (hr : M.right l) (js : List Nat) (hjs : M.beh k (M.at0 l k) = js) (f : Nat → Nat) (hf : ∀ j, f j ≤ 1125899906842624) (g c : Nat) (V : Nat → Value) (hV : ∀ y, k < y → y < n → V y = .int .u64 ((f y : Nat) : Int)) (w : World) (hl : Ly w b o l) (hR : Row w g n V) :
    Calls Try.prog 21 #[.slice (some ⟨b, o, none⟩) n cap, .int .i64 k, .slice (some ⟨g, 0, none⟩) n c] w fun e w' => e = .returned (.int .u64 ((M.sumT f js js.length : Nat) : Int)) ∧ Below w.heap.size w w' := by
  have HN := hid (gnext_ly b o n cap k l hln hn hk ok hr w hl js hjs)
  have HJ := hid (show ∀ y ∈ js, k < y ∧ y < n from fun y hy => by rw [← hjs] at hy; rw [← hln]; exact ⟨M.beh_gt hy, M.beh_lt hr ok hk hy⟩)
  have hlen : js.length ≤ 2 := by rw [← hjs]; exact M.beh_len _ _
  have HBD := hid (fun q => M.sumT_bound f js hlen 1125899906842624 hf q)
  have HV := hid hV
  have HRw := hid hR
  clear hjs ok hr hl hV hR
  obtain ⟨m, hm⟩ : ∃ m, js.length = m := ⟨_, rfl⟩
  rw [hm] at HN hlen ⊢
  have HMM := hid hm
  clear hm
  go_enter Try.func21, Try.ntmps21
  go_wp2_with fail
  refine HN.out.mono ?_
  rintro e w1 ⟨a, ca, rfl, hnx, hfr, hb⟩
  have HI := hid (show Row w1 g n V ∧ Below w.heap.size w w1 ∧ Nx w1 a js from ⟨HRw.out.below hb, hb, hnx⟩)
  clear hb hnx hfr HN HRw
  go_wp2
  go_loopw [7, 14] (fun sv iv wr => ∃ q : Nat, q ≤ m ∧ iv = .int .i64 q ∧ sv = .int .u64 ((M.sumT f js q : Nat) : Int) ∧ Hid (Row wr g n V ∧ Below w.heap.size w wr ∧ Nx wr a js)) (fun _ i _ => m - (intOf i).toNat)
  case atStart => exact ⟨0, Nat.zero_le _, rfl, by rw [M.sumT_zero]; rfl, HI.out⟩
  case round =>
    clear HI
    obtain ⟨q, hq, rfl, rfl, HQ⟩ := hrel
    by_cases hq2 : q < m
    · have i3 : (q : Int) < (m : Int) := by omega
      have hqj : q < js.length := by rw [HMM.out]; exact hq2
      obtain ⟨g', rfl⟩ : ∃ g', a = some ⟨g', 0, none⟩ := by
        rcases HQ.out.2.2 with h | ⟨g', e, _⟩
        · rw [h] at hqj; simp at hqj
        · exact ⟨g', e⟩
      have cy := nx_get HQ.out.2.2 q hqj
      obtain ⟨y, hy⟩ : ∃ y, js[q] = y := ⟨_, rfl⟩
      rw [hy] at cy
      obtain ⟨hky, hyn⟩ := HJ.out y (by rw [← hy]; exact List.getElem_mem hqj)
      have i4 : (y : Int) < (n : Int) := by omega
      have cY := HQ.out.1.cell y hyn
      rw [HV.out y hky hyn] at cY
      have HT := hid (show M.sumT f js (q + 1) = M.sumT f js q + f y by rw [M.sumT_succ f hqj, hy])
      have hxb := HBD.out q
      have hzb := hf y
      obtain ⟨x, hx⟩ : ∃ x, M.sumT f js q = x := ⟨_, rfl⟩
      obtain ⟨z, hz⟩ : ∃ z, f y = z := ⟨_, rfl⟩
      rw [hx] at hxb HT ⊢
      rw [hz] at hzb HT cY
      have u1 : IntKind.u64.wrap ((x : Int) + (z : Int)) = (x : Int) + (z : Int) := Go.IntWalk.u64_in _ (by omega)
      clear hx hz hy
      go_wp2
      go_roundw
      case rel => exact ⟨q + 1, by omega, by go_num, by rw [HT.out]; go_num, HQ.out⟩
      case measure => simp [intOf]; omega
    · obtain rfl : q = m := by omega
      go_wp2
      go_ret
      exact ⟨rfl, HQ.out.2.1⟩
end Go.Proofs.Ytfmlefadifpocaa.B
namespace Go.Proofs.Ytfmlefadifpocaa.B
open Go.ChangeShapes Go.WideShapes Go.ChangeAt Go.RowKit
open Go.Sort hiding Below
set_option linter.unusedVariables false

theorem max_one (x y : Nat) (h : max 1 x = y) : (if (1 : Int) < (x : Int) then (x : Int) else 1) = (y : Int) := by
  rw [← h]; split <;> omega

set_option maxHeartbeats 6400000 in
set_option maxRecDepth 1000000 in
theorem cfrom (b o n cap : Nat) (l : List M.I) (hln : l.length = n) (hn : n ≤ 4096) (ok : ∀ i ∈ l, M.okI i) (hr : M.right l) (w : World) (hl : Ly w b o l) :
    Calls Try.prog 19 #[.slice (some ⟨b, o, none⟩) n cap] w fun e w' => ∃ g, e = .returned (.slice (some ⟨g, 0, none⟩) n n) ∧ Row w' g n (fun j => .int .u64 ((M.held (M.ways l j) : Nat) : Int)) ∧ Below w.heap.size w w' ∧ w.heap.size ≤ g := by
  obtain ⟨i0, hi, hz0, hz1, hz2⟩ := info_parts infoU
  have HH := hid (And.intro hln (And.intro ok (And.intro hl hr)))
  have hbl : b < w.heap.size := hl.1
  clear hln ok hl hr
  go_enter Try.func19, Try.ntmps19
  go_wp2_with (at_make; refine wpList_make_full _ rfl _ _ 28 rfl w.heap.size 24 i0 (.int .u64 0) 1 Try.underlying28 hi hz0 hz1 .i64 .i64 n n n rfl rfl rfl rfl ?c1 ?c2 (Nat.le_refl _) ?_)
  case c1 => rw [hz2]; omega
  case c2 => unfold maxLen; omega
  intro wm hown hgrow
  have hbm : Below w.heap.size w wm := (Below.refl _ _).grown hgrow (Nat.le_refl _) (by intro k hk; cases hk)
  have hR0 : Row wm w.heap.size n (fun j => .int .u64 ((if n ≤ j then M.held (M.ways l j) else 0 : Nat) : Int)) := (Row.of_own hown (fun j hj => made_get (.int .u64 0) n j hj) (hown.lt _ rfl).2).congr fun j hj => by rw [if_neg (by omega)]; rfl
  have HM := hid (And.intro hR0 hbm)
  clear hown hgrow hbm hR0
  go_wp2
  go_loopw [4] (fun i wr => ∃ k : Nat, k ≤ n ∧ i = .int .i64 ((k : Int) - 1) ∧ Hid (Row wr w.heap.size n (fun j => .int .u64 ((if k ≤ j then M.held (M.ways l j) else 0 : Nat) : Int)) ∧ Below w.heap.size w wr)) (fun i _ => (intOf i + 1).toNat)
  case atStart => exact ⟨n, Nat.le_refl _, by go_num, HM.out⟩
  case round =>
    clear HM
    obtain ⟨k, hk, rfl, HR⟩ := hrel
    cases k with
    | succ k =>
      rw [show ((k + 1 : Nat) : Int) - 1 = (k : Int) by omega] at *
      have i2 : (k : Int) < (n : Int) := by omega
      have hkl : k < l.length := by rw [HH.out.1]; omega
      have hlt : k < n := by omega
      obtain ⟨js, hjs⟩ : ∃ js, M.beh k (M.at0 l k) = js := ⟨_, rfl⟩
      have hlen : js.length ≤ 2 := by rw [← hjs]; exact M.beh_len _ _
      have HC := hid (cbehind b o n cap k l HH.out.1 hn hkl HH.out.2.1 HH.out.2.2.2 js hjs (fun j => M.held (M.ways l j)) (fun j => M.held_le _) w.heap.size n _ (fun y h1 h2 => by rw [if_pos (by omega)]) wr (HH.out.2.2.1.far HR.out.2 hbl) HR.out.1)
      have HE := hid (M.from_eq HH.out.2.2.2 HH.out.2.1 hkl hjs)
      have hsb := M.sumT_bound (fun j => M.held (M.ways l j)) js hlen 1125899906842624 (fun j => M.held_le _) js.length
      clear hjs hlen
      obtain ⟨s, hs⟩ : ∃ s, M.sumT (fun j => M.held (M.ways l j)) js js.length = s := ⟨_, rfl⟩
      rw [hs] at HC HE hsb
      obtain ⟨v, hv⟩ : ∃ v, M.held (M.ways l k) = v := ⟨_, rfl⟩
      have HVV := hid hv
      rw [hv] at HE
      have HCh := hid (cheld s (s : Int) rfl)
      obtain ⟨x, hx⟩ : ∃ x, M.held s = x := ⟨_, rfl⟩
      rw [hx] at HCh HE
      have HMX := max_one x v HE.out
      clear hs hv hx HE
      go_wp2_with fail
      refine HC.out.mono ?_
      rintro e w3 ⟨rfl, hb⟩
      have hR3 := HR.out.1.below hb
      have hb3 := (stp (hid HR.out.2) hb).out
      have f0 := hR3.froz k hlt
      have c0 := hR3.cell k hlt
      have HQ := hid (And.intro hR3 hb3)
      clear hb hR3 hb3 HC HR
      go_wp2_with fail
      refine (HCh.out _).mono ?_
      rintro e w4 ⟨rfl, rfl⟩
      go_wp2
      go_roundw
      case rel => exact ⟨k, by omega, by go_num, (HQ.out.1.set k hlt _).congr (fun j hj => by
        by_cases e : j = k
        · subst e
          rw [if_pos rfl, if_pos (Nat.le_refl _), HVV.out]
        · rw [if_neg e]
          by_cases e2 : k < j
          · rw [if_pos (by omega), if_pos (by omega)]
          · rw [if_neg (by omega), if_neg (by omega)]), HQ.out.2.setCell (Nat.le_refl _) _⟩
      case measure => simp [intOf]
    | zero =>
      have HF := hid (show Row wr w.heap.size n (fun j => .int .u64 ((M.held (M.ways l j) : Nat) : Int)) from HR.out.1.congr fun j _ => by rw [if_pos (Nat.zero_le _)])
      go_wp2
      go_ret
      exact ⟨w.heap.size, rfl, HF.out, HR.out.2, Nat.le_refl _⟩
end Go.Proofs.Ytfmlefadifpocaa.B
namespace Go.Proofs.Ytfmlefadifpocaa.B
open Go.ChangeShapes Go.WideShapes Go.ChangeAt Go.RowKit
open Go.Sort hiding Below
set_option linter.unusedVariables false

set_option maxHeartbeats 6400000 in
set_option maxRecDepth 1000000 in
theorem cwork (b o n cap : Nat) (l : List M.I) (hln : l.length = n) (hn : n ≤ 4096) (ok : ∀ i ∈ l, M.okI i) (hr : M.right l) (w : World) (hl : Ly w b o l) :
    Calls Try.prog 9 #[.slice (some ⟨b, o, none⟩) n cap] w fun e w' => e = .returned (.tuple #[.int .u64 ((M.held (M.work l 0) : Nat) : Int), .int .i64 0]) ∧ Below w.heap.size w w' := by
  have h0 : 0 < n := by rw [← hln]; exact ((M.right_iff l).1 hr).1.1
  have i1 : (0 : Int) < (n : Int) := by omega
  have HC := hid (right_any (some ⟨b, o, none⟩) n cap l hln (by omega) ok w hl.lies true (M.right_of.2 hr))
  have HF := hid (fun W h => cfrom b o n cap l hln hn ok hr W h)
  have HH := hid (And.intro hln (And.intro ok (And.intro hl hr)))
  have hbl : b < w.heap.size := hl.1
  clear hln ok hl hr
  go_enter Try.func9, Try.ntmps9
  go_wp2_with fail
  refine HC.out.mono ?_
  rintro e w1 ⟨rfl, hb⟩
  have HB := hid hb
  clear hb HC
  go_wp2_with fail
  refine (HF.out _ (HH.out.2.2.1.below HB.out)).mono ?_
  rintro e w2 ⟨g, rfl, hR, hb, hg⟩
  have hgw : w.heap.size ≤ g := by have := HB.out.size; omega
  have HM := hid (show Row w2 g n (fun j => .int .u64 ((if n ≤ j then M.held (M.work l j) else M.held (M.ways l j) : Nat) : Int)) ∧ Below w.heap.size w w2 from ⟨hR.congr fun j hj => by rw [if_neg (by omega)], (stp HB hb).out⟩)
  clear hR hb HB HF hg
  go_wp2
  go_loopw [5] (fun i wr => ∃ k : Nat, k ≤ n ∧ i = .int .i64 ((k : Int) - 1) ∧ Hid (Row wr g n (fun j => .int .u64 ((if k ≤ j then M.held (M.work l j) else M.held (M.ways l j) : Nat) : Int)) ∧ Below w.heap.size w wr)) (fun i _ => (intOf i + 1).toNat)
  case atStart => exact ⟨n, Nat.le_refl _, by go_num, HM.out⟩
  case round =>
    clear HM
    obtain ⟨k, hk, rfl, HR⟩ := hrel
    cases k with
    | succ k =>
      rw [show ((k + 1 : Nat) : Int) - 1 = (k : Int) by omega] at *
      have i2 : (k : Int) < (n : Int) := by omega
      have hkl : k < l.length := by rw [HH.out.1]; omega
      have hlt : k < n := by omega
      obtain ⟨js, hjs⟩ : ∃ js, M.beh k (M.at0 l k) = js := ⟨_, rfl⟩
      have hlen : js.length ≤ 2 := by rw [← hjs]; exact M.beh_len _ _
      have HC := hid (fun W (h1 : Ly W b o l) (h2 : Row W g n (fun j => .int .u64 ((if k + 1 ≤ j then M.held (M.work l j) else M.held (M.ways l j) : Nat) : Int))) => cbehind b o n cap k l HH.out.1 hn hkl HH.out.2.1 HH.out.2.2.2 js hjs (fun j => M.held (M.work l j)) (fun j => M.held_le _) g n _ (fun y h1 h2 => by rw [if_pos (by omega)]) W h1 h2)
      have HE := hid (M.work_held HH.out.2.2.2 HH.out.2.1 hkl hjs)
      have hsb := M.sumT_bound (fun j => M.held (M.work l j)) js hlen 1125899906842624 (fun j => M.held_le _) js.length
      clear hjs hlen
      obtain ⟨s, hs⟩ : ∃ s, M.sumT (fun j => M.held (M.work l j)) js js.length = s := ⟨_, rfl⟩
      rw [hs] at HC HE hsb
      obtain ⟨v, hv⟩ : ∃ v, M.held (M.ways l k) = v := ⟨_, rfl⟩
      have hvb : v ≤ 1125899906842624 := by rw [← hv]; exact M.held_le _
      rw [hv] at HE
      obtain ⟨x, hx⟩ : ∃ x, M.held (M.work l k) = x := ⟨_, rfl⟩
      have HXX := hid hx
      rw [hx] at HE
      have HCh := hid (cheld (v + s) ((v : Int) + (s : Int)) (by omega))
      rw [HE.out] at HCh
      have u1 : IntKind.u64.wrap ((v : Int) + (s : Int)) = (v : Int) + (s : Int) := Go.IntWalk.u64_in _ (by omega)
      have hd := (Below.refl wr.heap.size wr).drew
      have HRd := hid (HR.out.1.below hd)
      have HBd := stp (hid HR.out.2) hd
      have hLd := HH.out.2.2.1.far HBd.out hbl
      have HLd := hid hLd
      have cK := HRd.out.cell k hlt
      have fK := HRd.out.froz k hlt
      simp only [show ¬ (k + 1 ≤ k) by omega, if_false, hv] at cK
      have HVV := hid hv
      clear hs hv hx HE hd hLd HR
      go_wp2
      go_region_with (first
        | (go_at_call 21; refine (HC.out _ HLd.out HRd.out).mono ?_; rintro e w3 ⟨rfl, hb⟩; have HR3 := hid (HRd.out.below hb); have HB3 := stp HBd hb; have c3 := HR3.out.cell k hlt; simp only [show ¬ (k + 1 ≤ k) by omega, if_false, HVV.out] at c3; have f3 := HR3.out.froz k hlt; clear hb)
        | (go_at_call 20; refine (HCh.out _).mono ?_; rintro e w4 ⟨rfl, rfl⟩))
      all_goals
        clear cK fK c3 f3 HRd HBd HLd HC HCh
        go_wp2
        go_roundw
        case rel => exact ⟨k, by omega, by go_num, (HR3.out.set k hlt _).congr (fun j hj => by
          by_cases e : j = k
          · subst e
            rw [if_pos rfl, if_pos (Nat.le_refl _), HXX.out]
          · rw [if_neg e]
            by_cases e2 : k < j
            · rw [if_pos (by omega), if_pos (by omega)]
            · rw [if_neg (by omega), if_neg (by omega)]), HB3.out.setCell hgw _⟩
        case measure => simp [intOf]
    | zero =>
      have c0 := HR.out.1.cell 0 h0
      simp only [Nat.le_refl, if_true] at c0
      obtain ⟨v, hv⟩ : ∃ v, M.held (M.work l 0) = v := ⟨_, rfl⟩
      have HV := hid hv
      rw [hv] at c0
      clear hv
      go_wp2
      go_ret2
      exact ⟨by rw [HV.out]; rfl, HR.out.2⟩
end Go.Proofs.Ytfmlefadifpocaa.B
namespace Go.Proofs.Ytfmlefadifpocaa.B
open Go.ChangeShapes Go.WideShapes Go.ChangeAt Go.RowKit
open Go.Sort hiding Below
set_option linter.unusedVariables false

set_option maxHeartbeats 1600000 in
set_option maxRecDepth 100000 in
theorem ccount (b o n cap : Nat) (l : List M.I) (hln : l.length = n) (hn : n ≤ 4096) (ok : ∀ i ∈ l, M.okI i) (hr : M.right l) (w : World) (hl : Ly w b o l) :
    Calls Try.prog 8 #[.slice (some ⟨b, o, none⟩) n cap] w fun e w' => e = .returned (.tuple #[.int .u64 ((M.held (M.ways l 0) : Nat) : Int), .int .i64 0]) ∧ Below w.heap.size w w' := by
  have h0 : 0 < n := by rw [← hln]; exact ((M.right_iff l).1 hr).1.1
  have i1 : (0 : Int) < (n : Int) := by omega
  have HC := hid (right_any (some ⟨b, o, none⟩) n cap l hln (by omega) ok w hl.lies true (M.right_of.2 hr))
  have HF := hid (fun W h => cfrom b o n cap l hln hn ok hr W h)
  have HL := hid hl
  clear hln ok hl hr
  go_enter Try.func8, Try.ntmps8
  go_wp2_with fail
  refine HC.out.mono ?_
  rintro e w1 ⟨rfl, hb⟩
  have HB := hid hb
  clear hb HC
  go_wp2_with fail
  refine (HF.out _ (HL.out.below HB.out)).mono ?_
  rintro e w2 ⟨g, rfl, hR, hb, hg⟩
  have c0 := hR.cell 0 h0
  obtain ⟨v, hv⟩ : ∃ v, M.held (M.ways l 0) = v := ⟨_, rfl⟩
  simp only [hv] at c0
  have HV := hid hv
  replace HB := stp HB hb
  clear hR hb HF hg hv
  go_wp2
  go_ret2
  exact ⟨by rw [HV.out]; rfl, HB.out⟩
set_option maxHeartbeats 1600000 in
set_option maxRecDepth 100000 in
theorem cenough (b o n cap : Nat) (l : List M.I) (hln : l.length = n) (hn : n ≤ 4096) (ok : ∀ i ∈ l, M.okI i) (hr : M.right l) (w : World) (hl : Ly w b o l) :
    Calls Try.prog 10 #[.slice (some ⟨b, o, none⟩) n cap] w fun e w' => e = .returned (.tuple #[.int .u64 ((M.held (M.ways l 0 * n) : Nat) : Int), .int .i64 0]) ∧ Below w.heap.size w w' := by
  have h0 : 0 < n := by rw [← hln]; exact ((M.right_iff l).1 hr).1.1
  have HC := hid (ccount b o n cap l hln hn ok hr w hl)
  obtain ⟨v, hv⟩ : ∃ v, M.held (M.ways l 0) = v := ⟨_, rfl⟩
  have hvb : v ≤ 1125899906842624 := by rw [← hv]; exact M.held_le _
  have HE := hid (show M.held (v * n) = M.held (M.ways l 0 * n) by rw [← hv, M.held_mul _ _ h0])
  have hp : v * n ≤ 1125899906842624 * 4096 := Nat.mul_le_mul hvb hn
  obtain ⟨P, hP⟩ : ∃ P, v * n = P := ⟨_, rfl⟩
  have hPI : (v : Int) * (n : Int) = (P : Int) := by rw [← hP]; simp
  rw [hP] at HE hp
  have u1 : IntKind.u64.wrap (P : Int) = (P : Int) := Go.IntWalk.u64_in _ (by omega)
  have u2 : IntKind.u64.wrap (n : Int) = (n : Int) := Go.IntWalk.u64_in _ (by omega)
  rw [hv] at HC
  clear ok hr hl hln hv hP
  go_enter Try.func10, Try.ntmps10
  go_wp2_with fail
  refine HC.out.mono ?_
  rintro e w1 ⟨rfl, hb⟩
  have HB := hid hb
  clear hb HC
  go_wp2_with fail
  refine (cheld P _ (by first | rfl | omega | exact hPI) _).mono ?_
  rintro e w2 ⟨rfl, rfl⟩
  go_wp2
  go_ret2
  exact ⟨by rw [← HE.out]; rfl, HB.out⟩
set_option maxHeartbeats 1600000 in
set_option maxRecDepth 100000 in
theorem cFrom (b o n cap : Nat) (l : List M.I) (hln : l.length = n) (hn : n ≤ 4096) (ok : ∀ i ∈ l, M.okI i) (hr : M.right l) (w : World) (hl : Ly w b o l) :
    Calls Try.prog 11 #[.slice (some ⟨b, o, none⟩) n cap] w fun e w' => (∃ g c, e = .returned (.slice (some ⟨g, 0, none⟩) n c) ∧ Row w' g n (fun j => .int .u64 ((M.held (M.ways l j) : Nat) : Int))) ∧ Below w.heap.size w w' := by
  have HC := hid (right_any (some ⟨b, o, none⟩) n cap l hln (by omega) ok w hl.lies true (M.right_of.2 hr))
  have HF := hid (fun W h => cfrom b o n cap l hln hn ok hr W h)
  have HL := hid hl
  clear hln ok hl hr
  go_enter Try.func11, Try.ntmps11
  go_wp2_with fail
  refine HC.out.mono ?_
  rintro e w1 ⟨rfl, hb⟩
  have HB := hid hb
  clear hb HC
  go_wp2_with fail
  refine (HF.out _ (HL.out.below HB.out)).mono ?_
  rintro e w2 ⟨g, rfl, hR, hb, hg⟩
  have HR := hid hR
  replace HB := stp HB hb
  clear hR hb HF hg
  go_wp2
  go_ret
  exact ⟨⟨g, n, rfl, HR.out⟩, HB.out⟩

set_option maxHeartbeats 1600000 in
set_option maxRecDepth 100000 in
theorem ccount_bad (a : Option Addr) (n cap : Nat) (l : List M.I) (hln : l.length = n) (hn : n ≤ 65536) (ok : ∀ i ∈ l, M.okI i) (hbad : M.rightB l = false) (w : World) (hl : Lies w a l) :
    Calls Try.prog 8 #[.slice a n cap] w fun e w' => e = .returned (.tuple #[.int .u64 0, .int .i64 1]) ∧ Below w.heap.size w w' := by
  have HC := hid (right_any a n cap l hln (by omega) ok w hl false hbad)
  clear hl ok hbad
  go_enter Try.func8, Try.ntmps8
  go_wp2_with fail
  refine HC.out.mono ?_
  rintro e w1 ⟨rfl, hb⟩
  have HB := hid hb
  clear hb HC
  go_wp2
  go_ret2
  exact ⟨rfl, HB.out⟩
set_option maxHeartbeats 1600000 in
set_option maxRecDepth 100000 in
theorem cwork_bad (a : Option Addr) (n cap : Nat) (l : List M.I) (hln : l.length = n) (hn : n ≤ 65536) (ok : ∀ i ∈ l, M.okI i) (hbad : M.rightB l = false) (w : World) (hl : Lies w a l) :
    Calls Try.prog 9 #[.slice a n cap] w fun e w' => e = .returned (.tuple #[.int .u64 0, .int .i64 1]) ∧ Below w.heap.size w w' := by
  have HC := hid (right_any a n cap l hln (by omega) ok w hl false hbad)
  clear hl ok hbad
  go_enter Try.func9, Try.ntmps9
  go_wp2_with fail
  refine HC.out.mono ?_
  rintro e w1 ⟨rfl, hb⟩
  have HB := hid hb
  clear hb HC
  go_wp2
  go_ret2
  exact ⟨rfl, HB.out⟩
set_option maxHeartbeats 1600000 in
set_option maxRecDepth 100000 in
theorem cenough_bad (a : Option Addr) (n cap : Nat) (l : List M.I) (hln : l.length = n) (hn : n ≤ 65536) (ok : ∀ i ∈ l, M.okI i) (hbad : M.rightB l = false) (w : World) (hl : Lies w a l) :
    Calls Try.prog 10 #[.slice a n cap] w fun e w' => e = .returned (.tuple #[.int .u64 0, .int .i64 1]) ∧ Below w.heap.size w w' := by
  have HC := hid (ccount_bad a n cap l hln (by omega) ok hbad w hl)
  clear hl ok hbad
  go_enter Try.func10, Try.ntmps10
  go_wp2_with fail
  refine HC.out.mono ?_
  rintro e w1 ⟨rfl, hb⟩
  have HB := hid hb
  clear hb HC
  go_wp2
  go_ret2
  exact ⟨rfl, HB.out⟩
set_option maxHeartbeats 1600000 in
set_option maxRecDepth 100000 in
theorem cFrom_bad (a : Option Addr) (n cap : Nat) (l : List M.I) (hln : l.length = n) (hn : n ≤ 65536) (ok : ∀ i ∈ l, M.okI i) (hbad : M.rightB l = false) (w : World) (hl : Lies w a l) :
    Calls Try.prog 11 #[.slice a n cap] w fun e w' => (∃ a c, e = .returned (.slice a 0 c)) ∧ Below w.heap.size w w' := by
  have HC := hid (right_any a n cap l hln (by omega) ok w hl false hbad)
  clear hl ok hbad
  go_enter Try.func11, Try.ntmps11
  go_wp2_with fail
  refine HC.out.mono ?_
  rintro e w1 ⟨rfl, hb⟩
  have HB := hid hb
  clear hb HC
  go_wp2
  go_ret
  exact ⟨⟨_, _, rfl⟩, HB.out⟩

theorem ctOk : CtOk := fun b o n cap l hln hn ok hr w hl => ccount b o n cap l hln hn ok hr w hl
theorem wkOk : WkOk := fun b o n cap l hln hn ok hr w hl => cwork b o n cap l hln hn ok hr w hl
theorem egOk : EgOk := fun b o n cap l hln hn ok hr w hl => cenough b o n cap l hln hn ok hr w hl
theorem frOk : FrOk := fun b o n cap l hln hn ok hr w hl => cFrom b o n cap l hln hn ok hr w hl
theorem ctBad : CtBad := fun a n cap l hln hn ok hr w hl => ccount_bad a n cap l hln (by omega) ok hr w hl
theorem wkBad : WkBad := fun a n cap l hln hn ok hr w hl => cwork_bad a n cap l hln (by omega) ok hr w hl
theorem egBad : EgBad := fun a n cap l hln hn ok hr w hl => cenough_bad a n cap l hln (by omega) ok hr w hl
theorem frBad : FrBad := fun a n cap l hln hn ok hr w hl => cFrom_bad a n cap l hln (by omega) ok hr w hl
end Go.Proofs.Ytfmlefadifpocaa.B
