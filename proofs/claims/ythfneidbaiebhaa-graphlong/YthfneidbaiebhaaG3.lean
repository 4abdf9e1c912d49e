/-
  The reference's Leaders, as a walk over the Go text.
-/
import Derived.Test.YthfneidbaiebhaaG2
namespace Go.Proofs.Ythfneidbaiebhaa.M
/-- the leaders, as they are known behind k places -/
def leadP (l : List I) (k j : Nat) : Bool := decide (j = 0) || (decide (j < k) && decide (1 < into l j)) || jmpK l k j
def leadQ (l : List I) (k j : Nat) : Bool := leadP l k j || (decide (j = k) && decide (1 < into l k))
theorem leadP_zero (l : List I) (j : Nat) : leadP l 0 j = decide (j = 0) := by
  unfold leadP; rw [jmpK_zero]; simp
theorem leadP_succ (l : List I) (k j : Nat) : leadP l (k + 1) j = (leadQ l k j || (rch l k && isJ (at0 l k) && (beh k (at0 l k)).contains j)) := by
  unfold leadQ leadP
  rw [jmpK_succ]
  by_cases e : j = k
  · subst e
    have h1 : decide (j < j + 1) = true := decide_eq_true (by omega)
    have h2 : decide (j < j) = false := decide_eq_false (by omega)
    rw [h1, h2]
    simp [Bool.or_assoc, Bool.or_comm, Bool.or_left_comm]
  · have h1 : decide (j < k + 1) = decide (j < k) := by
      by_cases h : j < k
      · rw [decide_eq_true h, decide_eq_true (by omega)]
      · rw [decide_eq_false h, decide_eq_false (by omega)]
    rw [h1, decide_eq_false e]
    simp [Bool.or_assoc]
theorem leadP_all {l : List I} {n j : Nat} (hn : l.length = n) (hj : j < n) : leadP l n j = lead l j := by
  unfold leadP lead
  rw [decide_eq_true hj, hn]
  simp
theorem leadQ_yes {l : List I} {k : Nat} (h : 1 < into l k) (j : Nat) : leadQ l k j = if j = k then true else leadP l k j := by
  unfold leadQ
  rw [decide_eq_true h]
  by_cases e : j = k
  · simp [e]
  · simp [e]
theorem leadQ_no {l : List I} {k : Nat} (h : ¬ 1 < into l k) (j : Nat) : leadQ l k j = leadP l k j := by
  unfold leadQ
  rw [decide_eq_false h]
  simp
end Go.Proofs.Ythfneidbaiebhaa.M
namespace Go.Proofs.Ythfneidbaiebhaa.B
open Go.ChangeShapes Go.WideShapes Go.ChangeAt Go.RowKit
open Go.Sort hiding Below
set_option linter.unusedVariables false

set_option maxHeartbeats 6400000 in
set_option maxRecDepth 1000000 in
theorem rleaders_any (b o n cap : Nat) (l : List M.I) (hln : l.length = n) (hn : n ≤ 65536) (ok : ∀ i ∈ l, M.okI i) (hr : M.right l) (w : World) (hl : Ly w b o l) :
    Calls Try.prog 37 #[.slice (some ⟨b, o, none⟩) n cap] w fun e w' => ∃ g, e = .returned (.slice (some ⟨g, 0, none⟩) n n) ∧ Row w' g n (fun j => .bool (M.lead l j)) ∧ Below w.heap.size w w' ∧ w.heap.size ≤ g := by
  obtain ⟨i0, hi, hz0, hz1, hz2⟩ := info_parts infob
  have h0 : 0 < n := by rw [← hln]; exact ((M.right_iff l).1 hr).1.1
  have i1 : (0 : Int) < (n : Int) := by omega
  have HC := hid (rreached_any b o n cap l hln h0 hn ok w hl)
  have HC2 := hid (fun W h => rinto_any b o n cap l hln hn ok hr W h)
  have HH := hid (And.intro hln (And.intro ok (And.intro hl hr)))
  have hbl : b < w.heap.size := hl.1
  clear hln ok hl hr
  go_enter Try.func37, Try.ntmps37
  go_wp2_with fail
  refine HC.out.mono ?_
  rintro e w0 ⟨gr, rfl, hR, hb, hg⟩
  have HR := hid (And.intro hR (And.intro hb hg))
  clear hR hb hg HC
  go_wp2_with fail
  refine (HC2.out _ (HH.out.2.2.1.far HR.out.2.1 hbl)).mono ?_
  rintro e w1 ⟨gi, rfl, hR, hb, hg⟩
  have HR2 := hid (show Row w1 gr n (fun j => .bool (M.rch l j)) ∧ Row w1 gi n (fun j => .int .i64 ((M.into l j : Nat) : Int)) ∧ Below w.heap.size w w1 ∧ gr < gi from ⟨HR.out.1.below hb, hR, (stp (hid HR.out.2.1) hb).out, Nat.lt_of_lt_of_le HR.out.1.lt hg⟩)
  clear hR hb hg HC2 HR
  go_wp2_with (at_make; refine wpList_make_full _ rfl _ _ 28 rfl w1.heap.size 4 i0 (.bool false) 1 Try.underlying28 hi hz0 hz1 .i64 .i64 n n n rfl rfl rfl rfl ?c1 ?c2 (Nat.le_refl _) ?_)
  case c1 => rw [hz2]; omega
  case c2 => unfold maxLen; omega
  intro wm hown hgrow
  have hbm : Below w1.heap.size w1 wm := (Below.refl _ _).grown hgrow (Nat.le_refl _) (by intro k hk; cases hk)
  have hR0 : Row wm w1.heap.size n (fun _ => .bool false) := Row.of_own hown (fun j hj => made_get (.bool false) n j hj) (hown.lt _ rfl).2
  have hgi : gi < w1.heap.size := HR2.out.2.1.lt
  have hgr : gr < w1.heap.size := HR2.out.1.lt
  have hw1 : w.heap.size ≤ w1.heap.size := HR2.out.2.2.1.size
  have cZ := hR0.cell 0 h0
  have fZ := hR0.froz 0 h0
  have HM := hid (show Row (wm.setCell ⟨w1.heap.size, 0, none⟩ (.bool true)) gr n (fun j => .bool (M.rch l j)) ∧ Row (wm.setCell ⟨w1.heap.size, 0, none⟩ (.bool true)) gi n (fun j => .int .i64 ((M.into l j : Nat) : Int)) ∧ Row (wm.setCell ⟨w1.heap.size, 0, none⟩ (.bool true)) w1.heap.size n (fun j => .bool (M.leadP l 0 j)) ∧ Below w.heap.size w (wm.setCell ⟨w1.heap.size, 0, none⟩ (.bool true)) from
    ⟨(HR2.out.1.below hbm).other _ _ _ (by omega), (HR2.out.2.1.below hbm).other _ _ _ (by omega), (hR0.set 0 h0 _).congr (fun j hj => by
      rw [M.leadP_zero]
      by_cases e2 : j = 0
      · simp [e2]
      · simp [e2]), (stp (hid HR2.out.2.2.1) hbm).out.setCell (by simp; omega) _⟩)
  clear hown hgrow hbm hR0 HR2
  go_wp2
  generalize wm.setCell ⟨w1.heap.size, 0, none⟩ (.bool true) = wz at *
  clear cZ fZ
  go_loopw [6] (fun i wr => ∃ k : Nat, k ≤ n ∧ i = .int .i64 k ∧ Hid (Row wr gr n (fun j => .bool (M.rch l j)) ∧ Row wr gi n (fun j => .int .i64 ((M.into l j : Nat) : Int)) ∧ Row wr w1.heap.size n (fun j => .bool (M.leadP l k j)) ∧ Below w.heap.size w wr)) (fun i _ => n - (intOf i).toNat)
  case atStart => exact ⟨0, Nat.zero_le _, rfl, HM.out⟩
  case round =>
    clear HM
    obtain ⟨k, hk, rfl, HR⟩ := hrel
    by_cases hlt : k < n
    · have i2 : (k : Int) < (n : Int) := by omega
      have hkl : k < l.length := by rw [HH.out.1]; exact hlt
      obtain ⟨x, hx⟩ : ∃ x, l[k] = x := ⟨_, rfl⟩
      have h0x : M.at0 l k = x := by rw [M.at0_eq hkl]; exact hx
      have hok : M.okI x := hx ▸ HH.out.2.1 _ (List.getElem_mem hkl)
      have hq : LiesAt wr b o k x := by rw [← hx]; exact (HH.out.2.2.1.far HR.out.2.2.2 hbl).2 k hkl
      obtain ⟨js, hjs⟩ : ∃ js, M.beh k (M.at0 l k) = js := ⟨_, rfl⟩
      have HN := hid (fun W h => rbehind_ly b o n cap k l HH.out.1 hn hkl HH.out.2.1 W h js hjs)
      have HJ := hid (show ∀ y ∈ js, y < n from fun y hy => by rw [← hjs] at hy; rw [← HH.out.1]; exact M.beh_lt HH.out.2.2.2 HH.out.2.1 hkl hy)
      have hlen : js.length ≤ 2 := by rw [← hjs]; exact M.beh_len _ _
      have HS := hid (show ∀ j, M.leadP l (k + 1) j = (M.leadQ l k j || (M.rch l k && M.isJ x && js.contains j)) by intro j; rw [M.leadP_succ, h0x, ← hjs, h0x])
      clear hjs h0x hx
      obtain ⟨m, hm⟩ : ∃ m, js.length = m := ⟨_, rfl⟩
      rw [hm] at HN hlen
      obtain ⟨c, t, f, d⟩ := x
      obtain ⟨q0, q1, q2, q3⟩ := hq
      simp only at q0 q1 q2 q3
      have hbk := hid hok.1
      have HIJ := hid (show M.isJ (c, t, f, d) = (decide (M.kind c = 11) || decide (M.kind c = 12)) from rfl)
      clear hok
      obtain ⟨v, hv⟩ : ∃ v, M.into l k = v := ⟨_, rfl⟩
      obtain ⟨rb, hrb⟩ : ∃ rb, M.rch l k = rb := ⟨_, rfl⟩
      rw [hrb] at HS
      go_wp2_with fail
      refine (rkind_any _ hbk.out.1 hbk.out.2 _).mono ?_
      rintro e w2 ⟨rfl, hb⟩
      have hA := HR.out.1.below hb
      have hI := HR.out.2.1.below hb
      have hO := HR.out.2.2.1.below hb
      have hBb := (stp (hid HR.out.2.2.2) hb).out
      clear hb HR q0 q1 q2 q3
      have ci := hI.cell k hlt
      simp only [hv] at ci
      have co := hO.cell k hlt
      have fo := hO.froz k hlt
      obtain ⟨V, HVV, hdv⟩ : ∃ V, Hid (Row V gr n (fun j => .bool (M.rch l j)) ∧ Row V gi n (fun j => .int .i64 ((M.into l j : Nat) : Int)) ∧ Row V w1.heap.size n (fun j => .bool (M.leadQ l k j)) ∧ Below w.heap.size w V) ∧ ((decide ((1 : Int) < (v : Int)) = true ∧ w2.setCell ⟨w1.heap.size, k, none⟩ (.bool true) = V) ∨ (decide ((1 : Int) < (v : Int)) = false ∧ w2 = V)) := by
        by_cases h1 : 1 < v
        · refine ⟨_, ⟨hA.other _ _ _ (by omega), hI.other _ _ _ (by omega), (hO.set k hlt (.bool true)).congr (fun j hj => ?_), hBb.setCell (by simp; omega) _⟩, .inl ⟨decide_eq_true (by omega), rfl⟩⟩
          rw [M.leadQ_yes (by rw [hv]; exact h1)]
          by_cases e : j = k
          · simp [e]
          · simp [e]
        · exact ⟨w2, ⟨hA, hI, hO.congr fun j hj => by rw [M.leadQ_no (by rw [hv]; exact h1)], hBb⟩, .inr ⟨decide_eq_false (by omega), rfl⟩⟩
      have cV := HVV.out.1.cell k hlt
      simp only [hrb] at cV
      have cs : (rb = false ∨ rb = true ∧ (M.kind c != 11) = true ∧ (M.kind c != 12) = true) ∨ (rb = true ∧ ((M.kind c != 11) = false ∨ (M.kind c != 11) = true ∧ (M.kind c != 12) = false)) := by
        cases rb <;> cases (M.kind c != 11) <;> cases (M.kind c != 12) <;> simp
      clear hA hI hO hBb hv hrb
      rcases cs with cs | cs
      · have HS2 := hid (show ∀ j, M.leadP l (k + 1) j = M.leadQ l k j by
          intro j
          rw [HS.out j, HIJ.out]
          rcases cs with rfl | ⟨_, d1, d2⟩
          · simp
          · simp only [bne_iff_ne, ne_eq] at d1 d2
            rw [decide_eq_false d1, decide_eq_false d2]
            simp)
        clear HS HN HIJ
        rcases cs with rfl | ⟨rfl, d1, d2⟩
        all_goals
          rcases hdv with ⟨dv, hV⟩ | ⟨dv, rfl⟩
          all_goals
            go_wp2
            go_roundw
            case rel => exact ⟨k + 1, by omega, by go_num, HVV.out.1, HVV.out.2.1, HVV.out.2.2.1.congr (fun j _ => by rw [HS2.out]), HVV.out.2.2.2⟩
            case measure => simp [intOf]; omega
      · have HS2 := hid (show ∀ j, M.leadP l (k + 1) j = (M.leadQ l k j || js.contains j) by
          intro j
          rw [HS.out j, HIJ.out]
          obtain ⟨rfl, d⟩ := cs
          have : (decide (M.kind c = 11) || decide (M.kind c = 12)) = true := by
            rw [Bool.or_eq_true, decide_eq_true_eq, decide_eq_true_eq]
            rcases d with d | ⟨_, d⟩
            · exact .inl (by simpa using d)
            · exact .inr (by simpa using d)
          rw [this]; simp)
        clear HS HIJ
        have HMM := hid hm
        clear hm
        obtain ⟨rfl, cs⟩ := cs
        rcases cs with d1 | ⟨d1, d2⟩
        all_goals
          rcases hdv with ⟨dv, hV⟩ | ⟨dv, rfl⟩
          all_goals
            go_wp2_with fail
            refine (HN.out _ (HH.out.2.2.1.far HVV.out.2.2.2 hbl)).mono ?_
            rintro e w3 ⟨a, ca, rfl, hnx, hfr, hb⟩
            have HI := hid (show Row w3 gr n (fun j => .bool (M.rch l j)) ∧ Row w3 gi n (fun j => .int .i64 ((M.into l j : Nat) : Int)) ∧ Row w3 w1.heap.size n (fun j => .bool (M.leadQ l k j || (js.take 0).contains j)) ∧ Below w.heap.size w w3 ∧ Nx w3 a js from
              ⟨HVV.out.1.below hb, HVV.out.2.1.below hb, (HVV.out.2.2.1.below hb).congr (fun j _ => by simp), (stp (hid HVV.out.2.2.2) hb).out, hnx⟩)
            have HGN := hid (show ∀ A, a = some A → A.block ≠ w1.heap.size from fun A hA => by have := hfr A hA; have := HVV.out.2.2.1.lt; omega)
            clear hb hnx hfr HN HVV cV ci co fo
            go_wp2
            go_loopw [9] (fun i wr => ∃ q : Nat, q ≤ m ∧ i = .int .i64 q ∧ Hid (Row wr gr n (fun j => .bool (M.rch l j)) ∧ Row wr gi n (fun j => .int .i64 ((M.into l j : Nat) : Int)) ∧ Row wr w1.heap.size n (fun j => .bool (M.leadQ l k j || (js.take q).contains j)) ∧ Below w.heap.size w wr ∧ Nx wr a js)) (fun i _ => m - (intOf i).toNat)
            case atStart => exact ⟨0, Nat.zero_le _, rfl, HI.out⟩
            case round =>
              clear HI
              obtain ⟨q, hq, rfl, HQ⟩ := hrel
              by_cases hq2 : q < m
              · have i3 : (q : Int) < (m : Int) := by omega
                have hqj : q < js.length := by rw [HMM.out]; exact hq2
                obtain ⟨g', rfl⟩ : ∃ g', a = some ⟨g', 0, none⟩ := by
                  rcases HQ.out.2.2.2.2 with h | ⟨g', e, _⟩
                  · rw [h] at hqj; simp at hqj
                  · exact ⟨g', e⟩
                have cy := nx_get HQ.out.2.2.2.2 q hqj
                obtain ⟨y, hy⟩ : ∃ y, js[q] = y := ⟨_, rfl⟩
                rw [hy] at cy
                have hyn : y < n := HJ.out y (by rw [← hy]; exact List.getElem_mem hqj)
                have i4 : (y : Int) < (n : Int) := by omega
                have HT := hid (show ∀ j, (js.take (q + 1)).contains j = ((js.take q).contains j || decide (j = y)) by
                  intro j
                  rw [Bool.eq_iff_iff, Bool.or_eq_true, List.contains_iff_mem, List.contains_iff_mem, decide_eq_true_eq, M.take_succ_mem hqj, hy])
                have cR := HQ.out.2.2.1.cell y hyn
                have fR := HQ.out.2.2.1.froz y hyn
                clear hy
                go_wp2
                go_roundw
                case rel => exact ⟨q + 1, by omega, by go_num, HQ.out.1.other _ _ _ (by omega), HQ.out.2.1.other _ _ _ (by omega), (HQ.out.2.2.1.set y hyn _).congr (fun j hj => by
                  rw [HT.out j]
                  by_cases e : j = y
                  · simp [e]
                  · simp [e]), HQ.out.2.2.2.1.setCell (by simp; omega) _, HQ.out.2.2.2.2.off HGN.out⟩
                case measure => simp [intOf]; omega
              · obtain rfl : q = m := by omega
                have HF := hid (show Row wr w1.heap.size n (fun j => .bool (M.leadP l (k + 1) j)) from HQ.out.2.2.1.congr fun j _ => by rw [HS2.out j, ← HMM.out, List.take_length])
                go_wp2
                go_roundw
                case rel => exact ⟨k + 1, by omega, by go_num, HQ.out.1, HQ.out.2.1, HF.out, HQ.out.2.2.2.1⟩
                case measure => simp [intOf]; omega
    · obtain rfl : k = n := by omega
      have HF := hid (show Row wr w1.heap.size k (fun j => .bool (M.lead l j)) from HR.out.2.2.1.congr fun j hj => by rw [M.leadP_all HH.out.1 hj])
      go_wp2
      go_ret
      exact ⟨w1.heap.size, rfl, HF.out, HR.out.2.2.2, hw1⟩
end Go.Proofs.Ythfneidbaiebhaa.B
