/-
  The program's reached places, and from how many one comes to each, as walks over the Go text.
-/
import Derived.Test.YtahaooghebmhnaaG6
namespace Go.Proofs.Ytahaooghebmhnaa.M
/-- reached, as it is known behind k places -/
def rchK (l : List I) (k j : Nat) : Bool := decide (j = 0) || (List.range k).any fun i => rch l i && (beh i (at0 l i)).contains j
theorem rchK_zero (l : List I) (j : Nat) : rchK l 0 j = decide (j = 0) := by unfold rchK; simp
theorem rchK_succ (l : List I) (k j : Nat) : rchK l (k + 1) j = (rchK l k j || (rch l k && (beh k (at0 l k)).contains j)) := by
  unfold rchK
  rw [List.range_succ, List.any_append]
  simp [Bool.or_assoc]
theorem rchK_at {l : List I} (ok : ∀ x ∈ l, okI x) {k j : Nat} (hj : j < l.length) (hk : j ≤ k) : rchK l k j = rch l j := by
  rw [Bool.eq_iff_iff]
  unfold rchK
  rw [Bool.or_eq_true, decide_eq_true_eq, List.any_eq_true]
  constructor
  · rintro (h | ⟨i, _, h⟩)
    · subst h; exact rch_zero hj
    · rw [Bool.and_eq_true, List.contains_iff_mem] at h
      exact rch_step ok (rch_lt h.1) h.1 h.2 hj
  · intro h
    rcases rch_from h with h | ⟨i, _, h2, h3⟩
    · exact .inl h
    · refine .inr ⟨i, List.mem_range.2 ?_, by rw [Bool.and_eq_true, List.contains_iff_mem]; exact ⟨h2, h3⟩⟩
      have := beh_gt h3
      omega
end Go.Proofs.Ytahaooghebmhnaa.M
namespace Go.Proofs.Ytahaooghebmhnaa.B
open Go.ChangeShapes Go.WideShapes Go.ChangeAt Go.RowKit
open Go.Sort hiding Below
set_option linter.unusedVariables false

set_option maxHeartbeats 3200000 in
set_option maxRecDepth 1000000 in
theorem greached_any (b o n cap : Nat) (l : List M.I) (hln : l.length = n) (hn : n ≤ 4096) (ok : ∀ i ∈ l, M.okI i) (hr : M.right l) (w : World) (hl : Ly w b o l) :
    Calls Try.prog 34 #[.slice (some ⟨b, o, none⟩) n cap] w fun e w' => ∃ g, e = .returned (.slice (some ⟨g, 0, none⟩) n n) ∧ Row w' g n (fun j => .bool (M.rch l j)) ∧ Below w.heap.size w w' ∧ w.heap.size ≤ g := by
  obtain ⟨i0, hi, hz0, hz1, hz2⟩ := info_parts infob
  have h0 : 0 < n := by rw [← hln]; exact ((M.right_iff l).1 hr).1.1
  have i1 : (0 : Int) < (n : Int) := by omega
  have HH := hid (And.intro hln (And.intro ok (And.intro hl hr)))
  have hbl : b < w.heap.size := hl.1
  clear hln ok hl hr
  go_enter Try.func34, Try.ntmps34
  go_wp2_with (at_make; refine wpList_make_full _ rfl _ _ 27 rfl w.heap.size 4 i0 (.bool false) 1 Try.underlying27 hi hz0 hz1 .i64 .i64 n n n rfl rfl rfl rfl ?c1 ?c2 (Nat.le_refl _) ?_)
  case c1 => rw [hz2]; omega
  case c2 => unfold maxLen; omega
  intro wm hown hgrow
  have hbm : Below w.heap.size w wm := (Below.refl _ _).grown hgrow (Nat.le_refl _) (by intro k hk; cases hk)
  have hR0 : Row wm w.heap.size n (fun _ => .bool false) := Row.of_own hown (fun j hj => made_get (.bool false) n j hj) (hown.lt _ rfl).2
  have cZ := hR0.cell 0 h0
  have fZ := hR0.froz 0 h0
  have HM := hid (show Row (wm.setCell ⟨w.heap.size, 0, none⟩ (.bool true)) w.heap.size n (fun j => .bool (M.rchK l 0 j)) ∧ Below w.heap.size w (wm.setCell ⟨w.heap.size, 0, none⟩ (.bool true)) from
    ⟨(hR0.set 0 h0 _).congr (fun j hj => by
      rw [M.rchK_zero]
      by_cases e2 : j = 0
      · simp [e2]
      · simp [e2]), hbm.setCell (Nat.le_refl _) _⟩)
  clear hown hgrow hbm hR0
  go_wp2
  generalize wm.setCell ⟨w.heap.size, 0, none⟩ (.bool true) = wz at *
  clear cZ fZ
  go_loopw [14] (fun i wr => ∃ k : Nat, k ≤ n ∧ i = .int .i64 k ∧ Hid (Row wr w.heap.size n (fun j => .bool (M.rchK l k j)) ∧ Below w.heap.size w wr)) (fun i _ => n - (intOf i).toNat)
  case atStart => exact ⟨0, Nat.zero_le _, rfl, HM.out⟩
  case round =>
    clear HM
    obtain ⟨k, hk, rfl, HR⟩ := hrel
    by_cases hlt : k < n
    · have i2 : (k : Int) < (n : Int) := by omega
      have hkl : k < l.length := by rw [HH.out.1]; exact hlt
      have cr := HR.out.1.cell k hlt
      have hrk : M.rchK l k k = M.rch l k := M.rchK_at HH.out.2.1 hkl (Nat.le_refl _)
      simp only [hrk] at cr
      clear hrk
      cases hc : M.rch l k with
      | false =>
        simp only [hc] at cr
        have HF := hid (show ∀ j, M.rchK l (k + 1) j = M.rchK l k j by intro j; rw [M.rchK_succ, hc]; simp)
        clear hc
        go_wp2
        go_roundw
        case rel => exact ⟨k + 1, by omega, by go_num, HR.out.1.congr fun j _ => by rw [HF.out], HR.out.2⟩
        case measure => simp [intOf]; omega
      | true =>
        simp only [hc] at cr
        obtain ⟨js, hjs⟩ : ∃ js, M.beh k (M.at0 l k) = js := ⟨_, rfl⟩
        have HN := hid (fun W h => gnext_ly b o n cap k l HH.out.1 hn hkl HH.out.2.1 HH.out.2.2.2 W h js hjs)
        have HJ := hid (show (∀ y ∈ js, y < n) ∧ ∀ j, M.rchK l (k + 1) j = (M.rchK l k j || js.contains j) from
          ⟨fun y hy => by rw [← hjs] at hy; rw [← HH.out.1]; exact M.beh_lt HH.out.2.2.2 HH.out.2.1 hkl hy, fun j => by rw [M.rchK_succ, hc, hjs]; simp⟩)
        have hlen : js.length ≤ 2 := by rw [← hjs]; exact M.beh_len _ _
        clear hjs hc
        obtain ⟨m, hm⟩ : ∃ m, js.length = m := ⟨_, rfl⟩
        rw [hm] at HN hlen
        go_wp2_with fail
        refine (HN.out _ (HH.out.2.2.1.far HR.out.2 hbl)).mono ?_
        rintro e w3 ⟨a, ca, rfl, hnx, hfr, hb⟩
        have HI := hid (show Row w3 w.heap.size n (fun j => .bool (M.rchK l k j || (js.take 0).contains j)) ∧ Below w.heap.size w w3 ∧ Nx w3 a js from
          ⟨(HR.out.1.below hb).congr fun j _ => by simp, (stp (hid HR.out.2) hb).out, hnx⟩)
        have HGN := hid (show ∀ A, a = some A → A.block ≠ w.heap.size from fun A hA => by have := hfr A hA; have := HR.out.1.lt; omega)
        have HMM := hid hm
        clear hb hnx hfr HN HR cr hm
        go_wp2
        go_loopw [26] (fun i wr => ∃ q : Nat, q ≤ m ∧ i = .int .i64 q ∧ Hid (Row wr w.heap.size n (fun j => .bool (M.rchK l k j || (js.take q).contains j)) ∧ Below w.heap.size w wr ∧ Nx wr a js)) (fun i _ => m - (intOf i).toNat)
        case atStart => exact ⟨0, Nat.zero_le _, rfl, HI.out⟩
        case round =>
          clear HI
          obtain ⟨q, hq, rfl, HQ⟩ := hrel
          by_cases hq2 : q < m
          · have i3 : (q : Int) < (m : Int) := by omega
            have hqj : q < js.length := by rw [HMM.out]; exact hq2
            obtain ⟨g', rfl⟩ : ∃ g', a = some ⟨g', 0, none⟩ := by
              rcases HQ.out.2.2 with h | ⟨g', e, _⟩
              · rw [h] at hqj; simp at hqj
              · exact ⟨g', e⟩
            have cy := nx_get HQ.out.2.2 q hqj
            obtain ⟨y, hy⟩ : ∃ y, js[q] = y := ⟨_, rfl⟩
            rw [hy] at cy
            have hyn : y < n := HJ.out.1 y (by rw [← hy]; exact List.getElem_mem hqj)
            have i4 : (y : Int) < (n : Int) := by omega
            have HT := hid (show ∀ j, (js.take (q + 1)).contains j = ((js.take q).contains j || decide (j = y)) by
              intro j
              rw [Bool.eq_iff_iff, Bool.or_eq_true, List.contains_iff_mem, List.contains_iff_mem, decide_eq_true_eq, M.take_succ_mem hqj, hy])
            have cR := HQ.out.1.cell y hyn
            have fR := HQ.out.1.froz y hyn
            clear hy
            go_wp2
            go_roundw
            case rel => exact ⟨q + 1, by omega, by go_num, (HQ.out.1.set y hyn _).congr (fun j hj => by
              rw [HT.out j]
              by_cases e : j = y
              · simp [e]
              · simp [e]), HQ.out.2.1.setCell (Nat.le_refl _) _, HQ.out.2.2.off HGN.out⟩
            case measure => simp [intOf]; omega
          · obtain rfl : q = m := by omega
            have HF := hid (show Row wr w.heap.size n (fun j => .bool (M.rchK l (k + 1) j)) from HQ.out.1.congr fun j _ => by rw [HJ.out.2 j, ← HMM.out, List.take_length])
            go_wp2
            go_roundw
            case rel => exact ⟨k + 1, by omega, by go_num, HF.out, HQ.out.2.1⟩
            case measure => simp [intOf]; omega
    · obtain rfl : k = n := by omega
      have HF := hid (show Row wr w.heap.size k (fun j => .bool (M.rch l j)) from HR.out.1.congr fun j hj => by rw [M.rchK_at HH.out.2.1 (by rw [HH.out.1]; exact hj) (Nat.le_of_lt hj)])
      go_wp2
      go_ret
      exact ⟨w.heap.size, rfl, HF.out, HR.out.2, Nat.le_refl _⟩

end Go.Proofs.Ytahaooghebmhnaa.B
