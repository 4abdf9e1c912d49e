/-
  Whether a program is a filter, as walks over the Go text.
-/
import Derived.Test.YtfmlefadifpocaaH2
namespace Go.Proofs.Ytfmlefadifpocaa.M
def ua (l : List I) : Nat × Int := match firstOf l.length (raw l) with
  | some i => (i, 10)
  | none => (0, 0)
theorem raw_at {l : List I} {i : Nat} (h : i < l.length) : raw l i = (rdW l[i] && bare l l[i].2.2.2 i) := by
  unfold raw
  rw [List.getElem?_eq_getElem h]
theorem ua_some {l : List I} {i : Nat} (h : i < l.length) (hz : raw l i = true) (ha : ∀ j, j < i → raw l j = false) : ua l = (i, 10) := by
  unfold ua
  rw [first_some.2 ⟨h, hz, ha⟩]
theorem ua_none {l : List I} (ha : ∀ j, j < l.length → raw l j = false) : ua l = (0, 0) := by
  unfold ua
  rw [first_none.2 ha]
theorem check_short {l : List I} (h : lnE l.length ≠ 0) : check l = (0, lnE l.length) := by
  unfold check lnE at *
  split
  · rfl
  · rename_i h0
    rw [if_neg h0] at h
    split
    · rfl
    · rename_i h1; rw [if_neg h1] at h; exact absurd rfl h
theorem check_alone {l : List I} (h : lnE l.length = 0) (h2 : (wa l).2 ≠ 0) : check l = wa l := by
  unfold check wa lnE at *
  split
  · rename_i h0; rw [if_pos h0] at h; simp at h
  · rename_i h0
    rw [if_neg h0] at h
    split
    · rename_i h1; rw [if_pos h1] at h; simp at h
    · split
      · rename_i e; first | rw [e] | rfl
      · rename_i e
        rw [e] at h2; exact absurd rfl h2
theorem check_end {l : List I} (h : lnE l.length = 0) (h2 : (wa l).2 = 0) : check l = if rets (l.getD (l.length - 1) (0, 0, 0, 0)) = false then (l.length - 1, 12) else ua l := by
  have hw := first_none.2 (wa_zero h2)
  unfold check ua lnE at *
  split
  · rename_i h0; rw [if_pos h0] at h; simp at h
  · rename_i h0
    rw [if_neg h0] at h
    split
    · rename_i h1; rw [if_pos h1] at h; simp at h
    · first | (rw [hw]; done) | (rw [hw]; rfl)
end Go.Proofs.Ytfmlefadifpocaa.M
namespace Go.Proofs.Ytfmlefadifpocaa.B
open Go.ChangeShapes Go.WideShapes Go.ChangeAt Go.RowKit
open Go.Sort hiding Below
set_option linter.unusedVariables false

theorem u16_andNot (a b : Nat) (ha : a < 65536) (hb : b < 65536) : bits .andNot .u16 (a : Int) (b : Int) = ((a &&& (2 ^ 16 - (b + 1)) : Nat) : Int) := by
  have hx : a &&& (2 ^ 16 - (b + 1)) < 2 ^ 16 := Nat.lt_of_le_of_lt Nat.and_le_left (by omega)
  show IntKind.u16.wrap ((BitVec.ofInt 16 (a : Int) &&& ~~~ BitVec.ofInt 16 (b : Int)).toNat : Int) = _
  rw [BitVec.toNat_and, BitVec.toNat_not, ofInt_u16 a ha, ofInt_u16 b hb, IntKind.wrap_u16]
  rw [show 2 ^ 16 - 1 - b = 2 ^ 16 - (b + 1) from by omega]
  omega
theorem pow_and (d m : Nat) : 2 ^ d &&& m = 0 ↔ m.testBit d = false := by
  constructor
  · intro h
    have := congrArg (fun x => x.testBit d) h
    simpa [Nat.testBit_and, Nat.testBit_two_pow_self] using this
  · intro h
    apply Nat.eq_of_testBit_eq
    intro i
    rw [Nat.testBit_and, Nat.testBit_two_pow, Nat.zero_testBit]
    by_cases e : d = i
    · subst e; simp [h]
    · simp [e]
theorem ldw_raw {l : List M.I} {i : Nat} (h : i < l.length) (ok : M.okI l[i]) (hk : M.kind l[i].1 = 4 ∨ M.kind l[i].1 = 6 → l[i].2.2.2 < 16) :
    (bits .andNot .u16 (M.ldW l[i].1 l[i].2.2.2) ((M.wr l i : Nat) : Int) != 0) = M.raw l i := by
  rw [M.raw_at h]
  generalize l[i] = x at *
  obtain ⟨c, t, f, k⟩ := x
  simp only at hk
  have h0 : 0 ≤ k := ok.2.2.2.1
  have hlt := M.wr_lt l i
  unfold M.ldW M.rdW M.bitI
  simp only
  by_cases hc : M.kind c = 4 ∨ M.kind c = 6
  · have hk := hk hc
    obtain ⟨d, rfl⟩ : ∃ d : Nat, k = d := ⟨k.toNat, by omega⟩
    rw [if_pos hc]
    have e1 : (M.kind c == 4 || M.kind c == 6) = true := by simpa using hc
    have h2 : (2 : Nat) ^ d < 65536 := by
      have : (2 : Nat) ^ d < 2 ^ 16 := Nat.pow_lt_pow_right (by omega) (by omega)
      omega
    rw [e1, Bool.true_and, show (2 : Int) ^ ((d : Int)).toNat = ((2 ^ d : Nat) : Int) from by simp, u16_andNot _ _ h2 hlt]
    have hd : d < 16 := by omega
    have hp := pow_and d (2 ^ 16 - (M.wr l i + 1))
    rw [Nat.testBit_two_pow_sub_succ hlt, M.wr_bit l i d hd] at hp
    simp only [hd, decide_true, Bool.true_and, Bool.not_not] at hp
    rw [Bool.eq_iff_iff, bne_iff_ne, ne_eq]
    rw [show (((2 ^ d &&& (2 ^ 16 - (M.wr l i + 1)) : Nat) : Int) = 0) ↔ (2 ^ d &&& (2 ^ 16 - (M.wr l i + 1)) = 0) from by omega, hp]
    simp
  · rw [if_neg hc]
    have e1 : (M.kind c == 4 || M.kind c == 6) = false := by simpa using hc
    rw [e1]
    have := u16_andNot 0 _ (by omega) hlt
    rw [show ((0 : Nat) : Int) = 0 from rfl] at this
    rw [this]
    simp

set_option maxHeartbeats 1600000 in
set_option maxRecDepth 100000 in
theorem unwritten_any (b o n cap : Nat) (l : List M.I) (hln : l.length = n) (h0 : 0 < n) (hn : n ≤ 65536) (ok : ∀ i ∈ l, M.okI i) (ha : ∀ j, j < l.length → M.wrong l j = false) (w : World) (hl : Ly w b o l) (p : Nat) (e0 : Int) (hp : M.ua l = (p, e0)) :
    Calls Try.prog 39 #[.slice (some ⟨b, o, none⟩) n cap] w fun e w' => e = .returned (.tuple #[.int .i64 (p : Int), .int .i64 e0]) ∧ Below w.heap.size w w' := by
  have hW := written_any b o n cap l hln h0 hn ok ha w hl
  have HH := hid (And.intro hln (And.intro ok (And.intro hl (And.intro ha hp))))
  clear hln ok hl ha hp
  go_enter Try.func39, Try.ntmps39
  go_wp2_with fail
  refine hW.mono ?_
  clear hW
  rintro e w1 ⟨g, rfl, hR, hB⟩
  have HM := hid (And.intro hR hB)
  clear hR hB
  go_wp2
  go_loopw [9] (fun i wr => ∃ k : Nat, k ≤ n ∧ i = .int .i64 k ∧ Hid (Below w1.heap.size w1 wr ∧ ∀ j, j < k → M.raw l j = false)) (fun i _ => n - (intOf i).toNat)
  case atStart => exact ⟨0, Nat.zero_le _, rfl, Below.refl _ _, fun j hj => by omega⟩
  case round =>
    obtain ⟨k, hk, rfl, HR⟩ := hrel
    have HBw := hid (HM.out.2.trans (HR.out.1.mono HM.out.2.size))
    by_cases hlt : k < n
    · have i1 : (k : Int) < (n : Int) := by omega
      have hkl : k < l.length := by rw [HH.out.1]; exact hlt
      have hok := HH.out.2.1 _ (List.getElem_mem hkl)
      have hloc : M.loc n k l[k] = 0 := by
        have := HH.out.2.2.2.1 k hkl
        rw [M.wrong_at hkl, HH.out.1] at this
        simpa using this
      have hld := M.loc_ld hloc
      have hraw := ldw_raw hkl hok hld
      have HC := hid (fun w => loaded_any l[k].1 l[k].2.1 l[k].2.2.1 l[k].2.2.2 hok hld w)
      have hRow := (HM.out.1.below HR.out.1).cell k hlt
      obtain ⟨q0, q1, q2, q3⟩ := (HH.out.2.2.1.below HBw.out).2 k hkl
      clear hloc hld hok
      generalize l[k] = x at *
      obtain ⟨c, t, f, kk⟩ := x
      simp only at q0 q1 q2 q3 HC hraw
      rcases hz : M.raw l k with _ | _
      · rw [hz] at hraw
        go_wp2_with (go_at_call 51; refine (HC.out _).mono ?_; rintro e w2 ⟨rfl, hb⟩; have HB := stp (hid HR.out.1) hb; clear hb)
        go_roundw
        case rel => exact ⟨k + 1, by omega, by go_num, HB.out, fun j hj => by
          by_cases e : j = k
          · subst e; exact hz
          · exact HR.out.2 j (by omega)⟩
        case measure => simp [intOf]; omega
      · rw [hz] at hraw
        have HP := hid (M.ua_some hkl hz HR.out.2)
        go_wp2_with (go_at_call 51; refine (HC.out _).mono ?_; rintro e w2 ⟨rfl, hb⟩; have HB := stp HBw hb; clear hb)
        go_ret2
        have := HP.out.symm.trans HH.out.2.2.2.2
        simp only [Prod.mk.injEq] at this
        exact ⟨by rw [← this.1, ← this.2]; rfl, HB.out⟩
    · obtain rfl : k = n := by omega
      have HP := hid (M.ua_none (l := l) fun j hj => HR.out.2 j (by rw [HH.out.1] at hj; exact hj))
      go_wp2
      go_ret2
      have := HP.out.symm.trans HH.out.2.2.2.2
      simp only [Prod.mk.injEq] at this
      exact ⟨by rw [← this.1, ← this.2]; rfl, HBw.out⟩
end Go.Proofs.Ytfmlefadifpocaa.B
