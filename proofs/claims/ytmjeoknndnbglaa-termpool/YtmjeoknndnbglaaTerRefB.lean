/-
  The reference's In of layer 11, as a walk over the Go text.
-/
import Derived.Test.YtmjeoknndnbglaaTerRefA
namespace Go.Proofs.Ytmjeoknndnbglaa.TM
/-- in a tree, as it is known where the k first places are still to be looked at -/
def inK (l : List N) (t k j : Nat) : Bool := decide (j = t) || (List.range l.length).any fun q => decide (k ≤ q) && inT l t q && (parts (nat0 l q)).contains j
theorem inK_end (l : List N) (t j : Nat) : inK l t l.length j = decide (j = t) := by
  unfold inK
  have : ((List.range l.length).any fun q => decide (l.length ≤ q) && inT l t q && (parts (nat0 l q)).contains j) = false := by
    rw [List.any_eq_false]
    intro q hq
    rw [List.mem_range] at hq
    rw [decide_eq_false (by omega)]; simp
  rw [this, Bool.or_false]
theorem inK_iff {l : List N} {t k j : Nat} : inK l t k j = true ↔ j = t ∨ ∃ q, q < l.length ∧ k ≤ q ∧ inT l t q = true ∧ j ∈ parts (nat0 l q) := by
  unfold inK
  rw [Bool.or_eq_true, decide_eq_true_eq, List.any_eq_true]
  refine or_congr_right ?_
  constructor
  · rintro ⟨q, h1, h2⟩
    rw [Bool.and_eq_true, Bool.and_eq_true, decide_eq_true_eq, List.contains_iff_mem] at h2
    exact ⟨q, List.mem_range.1 h1, h2.1.1, h2.1.2, h2.2⟩
  · rintro ⟨q, h1, h2, h3, h4⟩
    exact ⟨q, List.mem_range.2 h1, by rw [Bool.and_eq_true, Bool.and_eq_true, decide_eq_true_eq, List.contains_iff_mem]; exact ⟨⟨h2, h3⟩, h4⟩⟩
theorem inK_succ {l : List N} {t q : Nat} (hq : q < l.length) (j : Nat) : inK l t q j = (inK l t (q + 1) j || (inT l t q && (parts (nat0 l q)).contains j)) := by
  rw [Bool.eq_iff_iff, Bool.or_eq_true, Bool.and_eq_true, List.contains_iff_mem, inK_iff, inK_iff]
  constructor
  · rintro (h | ⟨p, h1, h2, h3, h4⟩)
    · exact .inl (.inl h)
    · by_cases e : p = q
      · subst e; exact .inr ⟨h3, h4⟩
      · exact .inl (.inr ⟨p, h1, by omega, h3, h4⟩)
  · rintro ((h | ⟨p, h1, h2, h3, h4⟩) | ⟨h3, h4⟩)
    · exact .inl h
    · exact .inr ⟨p, h1, by omega, h3, h4⟩
    · exact .inr ⟨q, hq, Nat.le_refl _, h3, h4⟩
theorem inK_at (l : List N) (t q : Nat) : inK l t (q + 1) q = inT l t q := by
  rw [Bool.eq_iff_iff, inK_iff, inT_iff]
  refine or_congr_right ?_
  constructor
  · rintro ⟨p, h1, h2, h3, h4⟩; exact ⟨p, h1, by omega, h3, h4⟩
  · rintro ⟨p, h1, h2, h3, h4⟩; exact ⟨p, h1, by omega, h3, h4⟩
theorem inK_zero {l : List N} (hl : Row l) (t j : Nat) : inK l t 0 j = inT l t j := by
  rw [Bool.eq_iff_iff, inK_iff, inT_iff]
  refine or_congr_right ?_
  constructor
  · rintro ⟨p, h1, h2, h3, h4⟩; exact ⟨p, h1, parts_lt (hl.2 p h1) h4, h3, h4⟩
  · rintro ⟨p, h1, h2, h3, h4⟩; exact ⟨p, h1, Nat.zero_le _, h3, h4⟩
theorem take_mem {js : List Nat} {q : Nat} (h : q < js.length) (j : Nat) : j ∈ js.take (q + 1) ↔ j ∈ js.take q ∨ j = js[q] := by
  rw [List.take_succ_eq_append_getElem h, List.mem_append, List.mem_singleton]
theorem parts_len (x : N) : (parts x).length ≤ 2 := by
  unfold parts
  split
  · simp
  · split <;> simp
end Go.Proofs.Ytmjeoknndnbglaa.TM
namespace Go.Proofs.Ytmjeoknndnbglaa.TB
open Go.ChangeShapes Go.WideShapes Go.ChangeAt Go.RowKit
open Go.Sort hiding Below
set_option linter.unusedVariables false

set_option maxHeartbeats 3200000 in
set_option maxRecDepth 1000000 in
theorem rin_any (b o n cap t : Nat) (l : List TM.N) (hln : l.length = n) (hr : TM.Row l) (ok : ∀ x ∈ l, TM.okN x) (ht : t < n) (w : World) (hl : LyN w b o l) :
    Calls Try.prog 20 #[.slice (some ⟨b, o, none⟩) n cap, .int .i64 t] w fun e w' => ∃ g, e = .returned (.slice (some ⟨g, 0, none⟩) n n) ∧ Row w' g n (fun j => .bool (TM.inT l t j)) ∧ Below w.heap.size w w' ∧ w.heap.size ≤ g := by
  obtain ⟨i0, hi, hz0, hz1, hz2⟩ := info_parts infob
  have hn : n ≤ 65536 := by rw [← hln]; exact hr.1
  have i1 : (t : Int) < (n : Int) := by omega
  have HH := hid (And.intro hln (And.intro ok (And.intro hl hr)))
  have hbl : b < w.heap.size := hl.1
  clear hln ok hl hr
  go_enter Try.func20, Try.ntmps20
  go_wp2_with (at_make; refine wpList_make_full _ rfl _ _ 50 rfl w.heap.size 4 i0 (.bool false) 1 Try.underlying50 hi hz0 hz1 .i64 .i64 n n n rfl rfl rfl rfl ?c1 ?c2 (Nat.le_refl _) ?_)
  case c1 => rw [hz2]; omega
  case c2 => unfold maxLen; omega
  intro wm hown hgrow
  have hbm : Below w.heap.size w wm := (Below.refl _ _).grown hgrow (Nat.le_refl _) (by intro k hk; cases hk)
  have hR0 : Row wm w.heap.size n (fun _ => .bool false) := Row.of_own hown (fun j hj => made_get (.bool false) n j hj) (hown.lt _ rfl).2
  have cZ := hR0.cell t ht
  have fZ := hR0.froz t ht
  have HM := hid (show Row (wm.setCell ⟨w.heap.size, t, none⟩ (.bool true)) w.heap.size n (fun j => .bool (TM.inK l t n j)) ∧ Below w.heap.size w (wm.setCell ⟨w.heap.size, t, none⟩ (.bool true)) from
    ⟨(hR0.set t ht _).congr (fun j hj => by
      have := TM.inK_end l t j
      rw [HH.out.1] at this
      rw [this]
      by_cases e2 : j = t
      · simp [e2]
      · simp [e2]), hbm.setCell (Nat.le_refl _) _⟩)
  clear hown hgrow hbm hR0
  go_wp2
  generalize wm.setCell ⟨w.heap.size, t, none⟩ (.bool true) = wz at *
  clear cZ fZ
  go_loopw [6] (fun iv wr => ∃ (k : Nat) (v : Int), k ≤ n ∧ iv = .int .i64 v ∧ v + 1 = k ∧ Hid (Row wr w.heap.size n (fun j => .bool (TM.inK l t k j)) ∧ Below w.heap.size w wr)) (fun iv _ => (intOf iv + 1).toNat)
  case atStart => exact ⟨n, (n : Int) - 1, Nat.le_refl _, rfl, by omega, HM.out⟩
  case round =>
    clear HM
    obtain ⟨k, v, hkn, rfl, hvk, HR⟩ := hrel
    rcases k with _ | q
    · obtain rfl : v = -1 := by omega
      have HF := hid (show Row wr w.heap.size n (fun j => .bool (TM.inT l t j)) from HR.out.1.congr fun j _ => by rw [TM.inK_zero HH.out.2.2.2])
      go_wp2
      go_ret
      exact ⟨w.heap.size, rfl, HF.out, HR.out.2, Nat.le_refl _⟩
    · obtain rfl : v = (q : Int) := by omega
      have hqn : q < n := by omega
      have i2 : (q : Int) < (n : Int) := by omega
      have hql : q < l.length := by rw [HH.out.1]; exact hqn
      clear hvk
      have cr := HR.out.1.cell q hqn
      simp only [TM.inK_at] at cr
      cases hc : TM.inT l t q with
      | false =>
        simp only [hc] at cr
        have HF := hid (show Row wr w.heap.size n (fun j => .bool (TM.inK l t q j)) ∧ Below w.heap.size w wr from ⟨HR.out.1.congr fun j _ => by rw [TM.inK_succ hql, hc]; simp, HR.out.2⟩)
        clear hc HR
        go_wp2
        go_roundw
        case rel => exact ⟨q, (q : Int) - 1, by omega, by go_num, by omega, HF.out⟩
        case measure => simp [intOf]
      | true =>
        simp only [hc] at cr
        obtain ⟨x, hx⟩ : ∃ x, l[q] = x := ⟨_, rfl⟩
        have h0x : TM.nat0 l q = x := by rw [TM.nat0_eq hql]; exact hx
        have hmay : TM.may x q = true := by rw [← h0x]; exact HH.out.2.2.2.2 q hql
        obtain ⟨q0, q1, q2, q3⟩ := (by rw [← hx]; exact (HH.out.2.2.1.far HR.out.2 hbl).2 q hql : NodeAt wr b o q x)
        obtain ⟨js, hjs⟩ : ∃ js, TM.parts x = js := ⟨_, rfl⟩
        have HJ := hid (show (∀ y ∈ js, y < n) ∧ ∀ j, TM.inK l t q j = (TM.inK l t (q + 1) j || js.contains j) from
          ⟨fun y hy => by rw [← hjs] at hy; have := TM.parts_lt hmay hy; omega, fun j => by rw [TM.inK_succ hql, hc, h0x, hjs]; simp⟩)
        have hlen : js.length ≤ 2 := by rw [← hjs]; exact TM.parts_len x
        obtain ⟨xo, xa, xb, xk⟩ := x
        have HN := hid (fun W => rparts_any xo xa xb xk q hmay W js hjs)
        simp only at q0 q1 q2 q3
        clear hjs hc hx h0x hmay
        obtain ⟨m, hm⟩ : ∃ m, js.length = m := ⟨_, rfl⟩
        rw [hm] at HN hlen
        go_wp2_with fail
        refine (HN.out _).mono ?_
        rintro e w3 ⟨a, ca, rfl, hnx, hb, hfr⟩
        have HI := hid (show Row w3 w.heap.size n (fun j => .bool (TM.inK l t (q + 1) j || (js.take 0).contains j)) ∧ Below w.heap.size w w3 ∧ Nx w3 a js from
          ⟨(HR.out.1.below hb).congr fun j _ => by simp, (stp (hid HR.out.2) hb).out, hnx⟩)
        have HGN := hid (show ∀ A, a = some A → A.block ≠ w.heap.size from fun A hA => by have := hfr A hA; have := HR.out.1.lt; omega)
        have HMM := hid hm
        clear hb hnx hfr HN HR cr hm q0 q1 q2 q3
        go_wp2
        go_loopw [8] (fun i wr => ∃ s : Nat, s ≤ m ∧ i = .int .i64 s ∧ Hid (Row wr w.heap.size n (fun j => .bool (TM.inK l t (q + 1) j || (js.take s).contains j)) ∧ Below w.heap.size w wr ∧ Nx wr a js)) (fun i _ => m - (intOf i).toNat)
        case atStart => exact ⟨0, Nat.zero_le _, rfl, HI.out⟩
        case round =>
          clear HI
          obtain ⟨s, hs, rfl, HQ⟩ := hrel
          by_cases hs2 : s < m
          · have i3 : (s : Int) < (m : Int) := by omega
            have hsj : s < js.length := by rw [HMM.out]; exact hs2
            obtain ⟨g', rfl⟩ : ∃ g', a = some ⟨g', 0, none⟩ := by
              rcases HQ.out.2.2 with h | ⟨g', e, _⟩
              · rw [h] at hsj; simp at hsj
              · exact ⟨g', e⟩
            have cy := nx_get HQ.out.2.2 s hsj
            obtain ⟨y, hy⟩ : ∃ y, js[s] = y := ⟨_, rfl⟩
            rw [hy] at cy
            have hyn : y < n := HJ.out.1 y (by rw [← hy]; exact List.getElem_mem hsj)
            have i4 : (y : Int) < (n : Int) := by omega
            have HT := hid (show ∀ j, (js.take (s + 1)).contains j = ((js.take s).contains j || decide (j = y)) by
              intro j
              rw [Bool.eq_iff_iff, Bool.or_eq_true, List.contains_iff_mem, List.contains_iff_mem, decide_eq_true_eq, TM.take_mem hsj, hy])
            have cR := HQ.out.1.cell y hyn
            have fR := HQ.out.1.froz y hyn
            clear hy
            go_wp2
            go_roundw
            case rel => exact ⟨s + 1, by omega, by go_num, (HQ.out.1.set y hyn _).congr (fun j hj => by
              rw [HT.out j]
              by_cases e : j = y
              · simp [e]
              · simp [e]), HQ.out.2.1.setCell (Nat.le_refl _) _, HQ.out.2.2.off HGN.out⟩
            case measure => simp [intOf]; omega
          · obtain rfl : s = m := by omega
            have HF := hid (show Row wr w.heap.size n (fun j => .bool (TM.inK l t q j)) from HQ.out.1.congr fun j _ => by rw [HJ.out.2 j, ← HMM.out, List.take_length])
            go_wp2
            go_roundw
            case rel => exact ⟨q, (q : Int) - 1, by omega, by go_num, by omega, HF.out, HQ.out.2.1⟩
            case measure => simp [intOf]
end Go.Proofs.Ytmjeoknndnbglaa.TB
