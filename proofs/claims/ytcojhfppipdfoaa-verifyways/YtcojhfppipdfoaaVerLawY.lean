/-
  The walk of one statement: on any way through a filter each step goes on within it, forward, and what is read was written.
-/
import Derived.Test.YtcojhfppipdfoaaVerAwake
namespace Go.Proofs.Ytcojhfppipdfoaa.B
open Go.ChangeShapes Go.WideShapes Go.ChangeAt Go.RowKit
open Go.Sort hiding Below
set_option linter.unusedVariables false

theorem ofInt_64 (a : Nat) (ha : a < 65536) : (BitVec.ofInt 64 (a : Int)).toNat = a := by
  rw [BitVec.ofInt_natCast, BitVec.toNat_ofNat]; exact Nat.mod_eq_of_lt (by omega)
theorem i64_and_nat (a b : Nat) (ha : a < 65536) (hb : b < 65536) : bits .and .i64 (a : Int) (b : Int) = ((a &&& b : Nat) : Int) := by
  have hx : a &&& b < 2 ^ 16 := Nat.and_lt_two_pow _ (by omega)
  show IntKind.i64.wrap ((BitVec.ofInt 64 (a : Int) &&& BitVec.ofInt 64 (b : Int)).toNat : Int) = _
  rw [BitVec.toNat_and, ofInt_64 a ha, ofInt_64 b hb, IntKind.wrap_i64]
  omega
theorem i64_or_nat (a b : Nat) (ha : a < 65536) (hb : b < 65536) : bits .or .i64 (a : Int) (b : Int) = ((a ||| b : Nat) : Int) := by
  have hx : a ||| b < 2 ^ 16 := Nat.or_lt_two_pow (by omega) (by omega)
  show IntKind.i64.wrap ((BitVec.ofInt 64 (a : Int) ||| BitVec.ofInt 64 (b : Int)).toNat : Int) = _
  rw [BitVec.toNat_or, ofInt_64 a ha, ofInt_64 b hb, IntKind.wrap_i64]
  omega
theorem shr_bit64 (y d : Nat) (hy : y < 65536) : (bits .and .i64 ((y : Int) / 2 ^ d) 1 == 0) = !y.testBit d := by
  have e : (y : Int) / 2 ^ d = ((y / 2 ^ d : Nat) : Int) := by simp
  have hl : y / 2 ^ d < 65536 := Nat.lt_of_le_of_lt (Nat.div_le_self _ _) hy
  rw [e]
  generalize hq : y / 2 ^ d = q at *
  have := i64_and_nat q 1 hl (by omega)
  rw [show ((1 : Nat) : Int) = 1 from rfl] at this
  rw [this, Nat.testBit_eq_decide_div_mod_eq, hq, Nat.and_one_is_mod]
  rcases Nat.mod_two_eq_zero_or_one q with h | h <;> simp [h]
/-- a row of truths lies at an address -/
def LyB (w : World) (a : Option Addr) (ps : List Bool) : Prop := ps = [] ∨ ∃ b o, a = some ⟨b, o, none⟩ ∧ b < w.heap.size ∧ ∀ j (h : j < ps.length), w.cell? ⟨b, o + j, none⟩ = some (.bool ps[j])
theorem LyB.below {w w' : World} {a : Option Addr} {ps : List Bool} (h : LyB w a ps) (hb : Below w.heap.size w w') : LyB w' a ps := by
  rcases h with h | ⟨b, o, e, h1, h2⟩
  · exact .inl h
  · exact .inr ⟨b, o, e, Nat.lt_of_lt_of_le h1 hb.size, fun j hj => (hb.cell (p := ⟨b, o + j, none⟩) h1).trans (h2 j hj)⟩

set_option maxHeartbeats 3200000 in
set_option maxRecDepth 1000000 in
theorem lawY_skip (a : Option Addr) (n cap : Nat) (c : Option Addr) (m cap' : Nat) (l : List M.I) (hln : l.length = n) (hm : n ≤ 9223372036854775807) (hm' : m ≤ 9223372036854775807) (ok : ∀ i ∈ l, M.okI i) (w : World) (hl : Lies w a l)
    (h : 300 < n ∨ 300 < m ∨ M.rightB l = false) :
    Calls Try.prog 5 #[.slice a n cap, .slice c m cap'] w fun e w' => e = .returned (.bool true) ∧ Below w.heap.size w w' := by
  have cs : decide ((300 : Int) < (n : Int)) = true ∨ decide ((300 : Int) < (n : Int)) = false ∧ (decide ((300 : Int) < (m : Int)) = true ∨ decide ((300 : Int) < (m : Int)) = false ∧ M.rightB l = false) := by
    by_cases h1 : 300 < n
    · left; exact decide_eq_true (by omega)
    · by_cases h2 : 300 < m
      · right; exact ⟨decide_eq_false (by omega), .inl (decide_eq_true (by omega))⟩
      · right; exact ⟨decide_eq_false (by omega), .inr ⟨decide_eq_false (by omega), by rcases h with h | h | h; omega; omega; exact h⟩⟩
  have HB := hid (Below.refl w.heap.size w)
  have HR := hid (fun w hl r hr => right_any a n cap l hln hm ok w hl r hr)
  have HL := hid hl
  clear h hl ok
  rcases cs with d1 | ⟨d1, d2 | ⟨d2, d3⟩⟩
  all_goals
    go_enter Try.func5, Try.ntmps5
    go_wp2_with (first
      | (go_at_call 9; refine (awake_any _).mono ?_; rintro e w1 ⟨rfl, hb⟩; replace HB := stp HB hb; clear hb)
      | (go_at_call 12; refine (HR.out _ (HL.out.below HB.out) false d3).mono ?_; rintro e w1 ⟨rfl, hb⟩; replace HB := stp HB hb; clear hb))
    go_ret
    exact ⟨rfl, HB.out⟩

set_option maxHeartbeats 3200000 in
set_option maxRecDepth 1000000 in
theorem lawY_main (b o n cap : Nat) (c : Option Addr) (m cap' : Nat) (l : List M.I) (ps : List Bool) (hln : l.length = n) (hlm : ps.length = m) (hn : n ≤ 300) (hm : m ≤ 300) (ok : ∀ i ∈ l, M.okI i) (w : World) (hl : Ly w b o l) (hq : LyB w c ps) (hr : M.rightB l = true) :
    Calls Try.prog 5 #[.slice (some ⟨b, o, none⟩) n cap, .slice c m cap'] w fun e w' => e = .returned (.bool true) ∧ Below w.heap.size w w' := by
  have d1 : decide ((300 : Int) < (n : Int)) = false := decide_eq_false (by omega)
  have d2 : decide ((300 : Int) < (m : Int)) = false := decide_eq_false (by omega)
  have HB := hid (Below.refl w.heap.size w)
  have HR := hid (fun w hl => right_any (some ⟨b, o, none⟩) n cap l hln (by omega) ok w hl true hr)
  have HH := hid (And.intro hln (And.intro ok (And.intro hl (And.intro hlm (And.intro hq (M.right_of.1 hr))))))
  clear hln ok hl hlm hq hr
  go_enter Try.func5, Try.ntmps5
  go_wp2_with (first
    | (go_at_call 9; refine (awake_any _).mono ?_; rintro e w1 ⟨rfl, hb⟩; replace HB := stp HB hb; clear hb)
    | (go_at_call 12; refine (HR.out _ (HH.out.2.2.1.below HB.out).lies).mono ?_; rintro e w1 ⟨rfl, hb⟩; replace HB := stp HB hb; clear hb))
  go_loopw [5, 6, 7] (fun at_ wt st wr => ∃ p W s : Nat, at_ = .int .i64 p ∧ wt = .int .i64 W ∧ st = .int .i64 s ∧ s ≤ p ∧ p < n ∧ W < 65536 ∧ Hid (Below w.heap.size w wr ∧ M.Way l p (fun v => 0 ≤ v ∧ W.testBit v.toNat = true))) (fun at_ _ _ _ => n - (intOf at_).toNat)
  case atStart =>
    have h0 : 0 < n := by have := ((M.right_iff l).1 HH.out.2.2.2.2.2).1.1; rw [HH.out.1] at this; exact this
    exact ⟨0, 0, 0, rfl, rfl, rfl, Nat.le_refl _, h0, by omega, HB.out, by rw [HH.out.1]; exact h0, fun v hv => M.Bare.zero (by rw [HH.out.1]; exact h0)⟩
  case round =>
    clear HB HR
    obtain ⟨p, W, s, rfl, rfl, rfl, hsp, hpn, hW, HR⟩ := hrel
    have i1 : (p : Int) < (n : Int) := by omega
    have i2 : (s : Int) < (n : Int) := by omega
    have hpl : p < l.length := by rw [HH.out.1]; exact hpn
    obtain ⟨x, hx⟩ : ∃ x, l[p] = x := ⟨_, rfl⟩
    have hok : M.okI x := hx ▸ HH.out.2.1 _ (List.getElem_mem hpl)
    have hloc : M.loc n p x = 0 := by
      have := ((M.right_iff l).1 HH.out.2.2.2.2.2).2.1 p hpl
      rw [M.wrong_at hpl, hx, HH.out.1] at this
      simpa using this
    obtain ⟨js, hjs⟩ : ∃ js, M.nxt p x = js := ⟨_, rfl⟩
    have HN := hid (fun w hl L hL => next_ly b o n cap p l HH.out.1 (by omega) hpl HH.out.2.1 w hl js L (by rw [hx]; exact hjs) hL)
    have HOn := hid (fun (q : Nat) (hq : q ∈ js) (W' : Nat) (hw : ∀ v : Int, ¬ (0 ≤ v ∧ W'.testBit v.toNat = true) → ¬ (0 ≤ v ∧ W.testBit v.toNat = true) ∧ M.wrW v x = false) =>
      M.Way.on HH.out.2.2.2.2.2 (q := q) (written' := fun v => 0 ≤ v ∧ W'.testBit v.toNat = true) HR.out.2 (by rw [hx, hjs]; exact hq) (by rw [hx]; exact hw) HH.out.2.1)
    have HRd := hid (fun h : M.rdW x = true => (by have := M.Way.reads HH.out.2.2.2.2.2 HR.out.2 (by rw [hx]; exact h); rw [hx] at this; exact this : 0 ≤ x.2.2.2 ∧ W.testBit x.2.2.2.toNat = true))
    have hp0 := (HH.out.2.2.1.below HR.out.1).2 p hpl
    rw [hx] at hp0
    have hlen : js.length ≤ 2 := by rw [← hjs]; exact M.nxt_len _ _
    clear hx
    obtain ⟨c0, t, f, kk⟩ := x
    obtain ⟨q0, q1, q2, q3⟩ := hp0
    obtain ⟨b0, b1, b2, b3⟩ := hok
    simp only at q0 q1 q2 q3 b0 b1 b2 b3
    obtain ⟨d, rfl⟩ : ∃ d : Nat, kk = d := ⟨kk.toNat, by omega⟩
    obtain ⟨t', rfl⟩ : ∃ d : Nat, t = d := ⟨t.toNat, by omega⟩
    obtain ⟨f', rfl⟩ : ∃ d : Nat, f = d := ⟨f.toNat, by omega⟩
    have hbk := hid b0
    have HLd := hid (M.loc_ld hloc)
    have HSt := hid (M.loc_st hloc)
    clear hloc b0
    have hA := At.new wr c0 t' f' d
    have HB := stp (hid HR.out.1) (al wr (.cells #[.int .u16 c0, .int .u8 t', .int .u8 f', .int .u32 d] 38))
    by_cases hret : M.kind c0 = 13 ∨ M.kind c0 = 14
    · have cs : (M.kind c0 == 13) = true ∨ (M.kind c0 == 13) = false ∧ (M.kind c0 == 14) = true := by
        rcases hret with h | h <;> simp [h]
      clear hret
      rcases cs with e1 | ⟨e1, e2⟩
      all_goals
        go_wp2_with (go_at_call 17; refine (rkind_any _ hbk.out.1 hbk.out.2 _).mono ?_; rintro e w1 ⟨rfl, hb⟩; replace HB := stp HB hb; clear hb)
        go_ret
        exact ⟨rfl, HB.out⟩
    · have e1 : (M.kind c0 == 13) = false := by rw [beq_eq_false_iff_ne]; omega
      have e2 : (M.kind c0 == 14) = false := by rw [beq_eq_false_iff_ne]; omega
      have hjn : js ≠ [] := by
        rw [← hjs]
        unfold M.nxt
        simp only
        rw [if_neg hret]
        split
        · simp
        · split <;> simp
      obtain ⟨L, hL⟩ : ∃ L, js.length = L + 1 := ⟨js.length - 1, by have := List.length_pos_iff.2 hjn; omega⟩
      clear hret hjs hjn
      have cs : (M.kind c0 == 4) = true ∨ (M.kind c0 == 4) = false ∧ ((M.kind c0 == 6) = true ∨ (M.kind c0 == 6) = false ∧ ((M.kind c0 == 8) = true ∨ (M.kind c0 == 8) = false ∧ ((M.kind c0 == 9) = true ∨ (M.kind c0 == 9) = false))) := by
        cases (M.kind c0 == 4) <;> cases (M.kind c0 == 6) <;> cases (M.kind c0 == 8) <;> cases (M.kind c0 == 9) <;> simp
      have hwr : ∀ v : Int, M.wrW v (c0, (t' : Int), (f' : Int), (d : Int)) = ((M.kind c0 == 8 || M.kind c0 == 9) && (d : Int) == v) := fun _ => rfl
      have hrd : M.rdW (c0, (t' : Int), (f' : Int), (d : Int)) = (M.kind c0 == 4 || M.kind c0 == 6) := rfl
      have hon : (M.kind c0 == 8 || M.kind c0 == 9) = false → ∀ q ∈ js, p < q ∧ M.Way l q (fun v => 0 ≤ v ∧ W.testBit v.toNat = true) := fun h q hq =>
        HOn.out q hq W (fun v hv => ⟨hv, by rw [hwr, h]; rfl⟩)
      have hst : (M.kind c0 == 8 || M.kind c0 == 9) = true → ∀ q ∈ js, p < q ∧ M.Way l q (fun v => 0 ≤ v ∧ (W ||| 2 ^ d).testBit v.toNat = true) := fun h q hq =>
        HOn.out q hq (W ||| 2 ^ d) (fun v hv => by
          rw [Nat.testBit_or, Nat.testBit_two_pow] at hv
          refine ⟨fun h2 => hv ⟨h2.1, by rw [h2.2]; rfl⟩, ?_⟩
          rw [hwr, h, Bool.true_and, beq_eq_false_iff_ne]
          rintro rfl
          exact hv ⟨by omega, by simp⟩)
      have hrb : (M.kind c0 == 4 || M.kind c0 == 6) = true → (bits .and .i64 ((W : Int) / 2 ^ d) 1 == 0) = false := fun h => by
        rw [shr_bit64 W d hW]
        have := (HRd.out (by rw [hrd]; exact h)).2
        simp only [Int.toNat_natCast] at this
        rw [this]; rfl
      have HX := hid (And.intro hon (And.intro hst hrb))
      clear hwr hrd hon hst hrb HOn HRd
      rcases cs with e4 | ⟨e4, e6 | ⟨e6, e8 | ⟨e8, e9 | e9⟩⟩⟩
      · have hd : (d : Int) < 16 := HLd.out (Or.inl (eq_of_beq e4))
        have hz := HX.out.2.2 (by simp [*])
        have e8 : (M.kind c0 == 8) = false := by rw [eq_of_beq e4]; rfl
        have e9 : (M.kind c0 == 9) = false := by rw [eq_of_beq e4]; rfl
        have HW2 := hid (HX.out.1 (by rw [e8, e9]; rfl))
        clear HX
        go_wp2_with (go_at_call 17; refine (rkind_any _ hbk.out.1 hbk.out.2 _).mono ?_; rintro e w1 ⟨rfl, hb⟩; obtain ⟨a0, a1, a2, a3, _⟩ := (hA.below hb).cells; replace HB := stp HB hb; clear hb)
        refine (HN.out _ (HH.out.2.2.1.below HB.out) (L + 1) hL).mono ?_
        rintro e w2 ⟨a, rfl, hnx, _, hb⟩
        replace HB := stp HB hb
        clear hb a0 a1 a2 a3 q0 q1 q2 q3 hA HR
        rcases hnx with h | ⟨g', rfl, _, hcell⟩
        · rw [h] at hL; simp at hL
        obtain ⟨y0, hy0⟩ : ∃ y, js[0]'(by omega) = y := ⟨_, rfl⟩
        obtain ⟨y1, hy1⟩ : ∃ y, js[L]'(by omega) = y := ⟨_, rfl⟩
        have cy0 := hcell 0 (by omega)
        have cy1 := hcell L (by omega)
        rw [hy0] at cy0
        rw [hy1] at cy1
        have HY0 := hid (HW2.out y0 (by rw [← hy0]; exact List.getElem_mem _))
        have HY1 := hid (HW2.out y1 (by rw [← hy1]; exact List.getElem_mem _))
        have n0 : ¬ (y0 : Int) ≤ (p : Int) := by have := HY0.out.1; omega
        have n1 : ¬ (y1 : Int) ≤ (p : Int) := by have := HY1.out.1; omega
        clear hcell hy0 hy1
        by_cases hs : s < m
        · have i3 : (s : Int) < (m : Int) := by omega
          rcases (HH.out.2.2.2.2.1).below HB.out with h | ⟨bb, oo, rfl, _, hpk⟩
          · have := HH.out.2.2.2.1; rw [h] at this; simp at this; omega
          have cp := hpk s (by rw [HH.out.2.2.2.1]; exact hs)
          generalize ps[s]'(by rw [HH.out.2.2.2.1]; exact hs) = pv at cp
          clear hpk
          cases pv
          · go_wp2
            go_roundw
            case rel => exact ⟨y0, W, s + 1, rfl, rfl, by go_num, by have := HY0.out.1; omega, by have := HY0.out.2.1; rw [HH.out.1] at this; exact this, hW, HB.out, HY0.out.2⟩
            case measure => have h1 := HY0.out.1; have h2 := HY0.out.2.1; rw [HH.out.1] at h2; simp [intOf]; omega
          · go_wp2
            go_roundw
            case rel => exact ⟨y1, W, s + 1, rfl, rfl, by go_num, by have := HY1.out.1; omega, by have := HY1.out.2.1; rw [HH.out.1] at this; exact this, hW, HB.out, HY1.out.2⟩
            case measure => have h1 := HY1.out.1; have h2 := HY1.out.2.1; rw [HH.out.1] at h2; simp [intOf]; omega
        · have i3 : ¬ (s : Int) < (m : Int) := by omega
          go_wp2
          go_roundw
          case rel => exact ⟨y0, W, s + 1, rfl, rfl, by go_num, by have := HY0.out.1; omega, by have := HY0.out.2.1; rw [HH.out.1] at this; exact this, hW, HB.out, HY0.out.2⟩
          case measure => have h1 := HY0.out.1; have h2 := HY0.out.2.1; rw [HH.out.1] at h2; simp [intOf]; omega
      · have hd : (d : Int) < 16 := HLd.out (Or.inr (eq_of_beq e6))
        have hz := HX.out.2.2 (by simp [*])
        have e8 : (M.kind c0 == 8) = false := by rw [eq_of_beq e6]; rfl
        have e9 : (M.kind c0 == 9) = false := by rw [eq_of_beq e6]; rfl
        have HW2 := hid (HX.out.1 (by rw [e8, e9]; rfl))
        clear HX
        go_wp2_with (go_at_call 17; refine (rkind_any _ hbk.out.1 hbk.out.2 _).mono ?_; rintro e w1 ⟨rfl, hb⟩; obtain ⟨a0, a1, a2, a3, _⟩ := (hA.below hb).cells; replace HB := stp HB hb; clear hb)
        refine (HN.out _ (HH.out.2.2.1.below HB.out) (L + 1) hL).mono ?_
        rintro e w2 ⟨a, rfl, hnx, _, hb⟩
        replace HB := stp HB hb
        clear hb a0 a1 a2 a3 q0 q1 q2 q3 hA HR
        rcases hnx with h | ⟨g', rfl, _, hcell⟩
        · rw [h] at hL; simp at hL
        obtain ⟨y0, hy0⟩ : ∃ y, js[0]'(by omega) = y := ⟨_, rfl⟩
        obtain ⟨y1, hy1⟩ : ∃ y, js[L]'(by omega) = y := ⟨_, rfl⟩
        have cy0 := hcell 0 (by omega)
        have cy1 := hcell L (by omega)
        rw [hy0] at cy0
        rw [hy1] at cy1
        have HY0 := hid (HW2.out y0 (by rw [← hy0]; exact List.getElem_mem _))
        have HY1 := hid (HW2.out y1 (by rw [← hy1]; exact List.getElem_mem _))
        have n0 : ¬ (y0 : Int) ≤ (p : Int) := by have := HY0.out.1; omega
        have n1 : ¬ (y1 : Int) ≤ (p : Int) := by have := HY1.out.1; omega
        clear hcell hy0 hy1
        by_cases hs : s < m
        · have i3 : (s : Int) < (m : Int) := by omega
          rcases (HH.out.2.2.2.2.1).below HB.out with h | ⟨bb, oo, rfl, _, hpk⟩
          · have := HH.out.2.2.2.1; rw [h] at this; simp at this; omega
          have cp := hpk s (by rw [HH.out.2.2.2.1]; exact hs)
          generalize ps[s]'(by rw [HH.out.2.2.2.1]; exact hs) = pv at cp
          clear hpk
          cases pv
          · go_wp2
            go_roundw
            case rel => exact ⟨y0, W, s + 1, rfl, rfl, by go_num, by have := HY0.out.1; omega, by have := HY0.out.2.1; rw [HH.out.1] at this; exact this, hW, HB.out, HY0.out.2⟩
            case measure => have h1 := HY0.out.1; have h2 := HY0.out.2.1; rw [HH.out.1] at h2; simp [intOf]; omega
          · go_wp2
            go_roundw
            case rel => exact ⟨y1, W, s + 1, rfl, rfl, by go_num, by have := HY1.out.1; omega, by have := HY1.out.2.1; rw [HH.out.1] at this; exact this, hW, HB.out, HY1.out.2⟩
            case measure => have h1 := HY1.out.1; have h2 := HY1.out.2.1; rw [HH.out.1] at h2; simp [intOf]; omega
        · have i3 : ¬ (s : Int) < (m : Int) := by omega
          go_wp2
          go_roundw
          case rel => exact ⟨y0, W, s + 1, rfl, rfl, by go_num, by have := HY0.out.1; omega, by have := HY0.out.2.1; rw [HH.out.1] at this; exact this, hW, HB.out, HY0.out.2⟩
          case measure => have h1 := HY0.out.1; have h2 := HY0.out.2.1; rw [HH.out.1] at h2; simp [intOf]; omega
      · have hd : (d : Int) < 16 := HSt.out (Or.inl (eq_of_beq e8))
        have HW2' := hid (HX.out.2.1 (by simp [*]))
        obtain ⟨p2, hp2⟩ : ∃ p2 : Nat, 2 ^ d = p2 := ⟨_, rfl⟩
        have hpl2 : p2 < 65536 := by
          rw [← hp2]
          have : (2 : Nat) ^ d < 2 ^ 16 := Nat.pow_lt_pow_right (by omega) (by omega)
          omega
        have hwv : wrap64 (2 ^ d) = (p2 : Int) := by
          rw [show (2 : Int) ^ d = (p2 : Int) by rw [← hp2]; simp]
          unfold wrap64; omega
        obtain ⟨W2, hWW⟩ : ∃ z : Nat, W ||| p2 = z := ⟨_, rfl⟩
        have hor : bits .or .i64 (W : Int) (p2 : Int) = (W2 : Int) := by rw [i64_or_nat W p2 hW hpl2, hWW]
        have hW2 : W2 < 65536 := by rw [← hWW]; exact Nat.or_lt_two_pow (n := 16) hW hpl2
        have HW2 := hid (show ∀ q ∈ js, p < q ∧ M.Way l q (fun v => 0 ≤ v ∧ W2.testBit v.toNat = true) by have := HW2'.out; rw [hp2, hWW] at this; exact this)
        clear HX HW2' hp2 hWW
        go_wp2_with (go_at_call 17; refine (rkind_any _ hbk.out.1 hbk.out.2 _).mono ?_; rintro e w1 ⟨rfl, hb⟩; obtain ⟨a0, a1, a2, a3, _⟩ := (hA.below hb).cells; replace HB := stp HB hb; clear hb)
        refine (HN.out _ (HH.out.2.2.1.below HB.out) (L + 1) hL).mono ?_
        rintro e w2 ⟨a, rfl, hnx, _, hb⟩
        replace HB := stp HB hb
        clear hb a0 a1 a2 a3 q0 q1 q2 q3 hA HR
        rcases hnx with h | ⟨g', rfl, _, hcell⟩
        · rw [h] at hL; simp at hL
        obtain ⟨y0, hy0⟩ : ∃ y, js[0]'(by omega) = y := ⟨_, rfl⟩
        obtain ⟨y1, hy1⟩ : ∃ y, js[L]'(by omega) = y := ⟨_, rfl⟩
        have cy0 := hcell 0 (by omega)
        have cy1 := hcell L (by omega)
        rw [hy0] at cy0
        rw [hy1] at cy1
        have HY0 := hid (HW2.out y0 (by rw [← hy0]; exact List.getElem_mem _))
        have HY1 := hid (HW2.out y1 (by rw [← hy1]; exact List.getElem_mem _))
        have n0 : ¬ (y0 : Int) ≤ (p : Int) := by have := HY0.out.1; omega
        have n1 : ¬ (y1 : Int) ≤ (p : Int) := by have := HY1.out.1; omega
        clear hcell hy0 hy1
        by_cases hs : s < m
        · have i3 : (s : Int) < (m : Int) := by omega
          rcases (HH.out.2.2.2.2.1).below HB.out with h | ⟨bb, oo, rfl, _, hpk⟩
          · have := HH.out.2.2.2.1; rw [h] at this; simp at this; omega
          have cp := hpk s (by rw [HH.out.2.2.2.1]; exact hs)
          generalize ps[s]'(by rw [HH.out.2.2.2.1]; exact hs) = pv at cp
          clear hpk
          cases pv
          · go_wp2
            go_roundw
            case rel => exact ⟨y0, W2, s + 1, rfl, rfl, by go_num, by have := HY0.out.1; omega, by have := HY0.out.2.1; rw [HH.out.1] at this; exact this, hW2, HB.out, HY0.out.2⟩
            case measure => have h1 := HY0.out.1; have h2 := HY0.out.2.1; rw [HH.out.1] at h2; simp [intOf]; omega
          · go_wp2
            go_roundw
            case rel => exact ⟨y1, W2, s + 1, rfl, rfl, by go_num, by have := HY1.out.1; omega, by have := HY1.out.2.1; rw [HH.out.1] at this; exact this, hW2, HB.out, HY1.out.2⟩
            case measure => have h1 := HY1.out.1; have h2 := HY1.out.2.1; rw [HH.out.1] at h2; simp [intOf]; omega
        · have i3 : ¬ (s : Int) < (m : Int) := by omega
          go_wp2
          go_roundw
          case rel => exact ⟨y0, W2, s + 1, rfl, rfl, by go_num, by have := HY0.out.1; omega, by have := HY0.out.2.1; rw [HH.out.1] at this; exact this, hW2, HB.out, HY0.out.2⟩
          case measure => have h1 := HY0.out.1; have h2 := HY0.out.2.1; rw [HH.out.1] at h2; simp [intOf]; omega
      · have hd : (d : Int) < 16 := HSt.out (Or.inr (eq_of_beq e9))
        have HW2' := hid (HX.out.2.1 (by simp [*]))
        obtain ⟨p2, hp2⟩ : ∃ p2 : Nat, 2 ^ d = p2 := ⟨_, rfl⟩
        have hpl2 : p2 < 65536 := by
          rw [← hp2]
          have : (2 : Nat) ^ d < 2 ^ 16 := Nat.pow_lt_pow_right (by omega) (by omega)
          omega
        have hwv : wrap64 (2 ^ d) = (p2 : Int) := by
          rw [show (2 : Int) ^ d = (p2 : Int) by rw [← hp2]; simp]
          unfold wrap64; omega
        obtain ⟨W2, hWW⟩ : ∃ z : Nat, W ||| p2 = z := ⟨_, rfl⟩
        have hor : bits .or .i64 (W : Int) (p2 : Int) = (W2 : Int) := by rw [i64_or_nat W p2 hW hpl2, hWW]
        have hW2 : W2 < 65536 := by rw [← hWW]; exact Nat.or_lt_two_pow (n := 16) hW hpl2
        have HW2 := hid (show ∀ q ∈ js, p < q ∧ M.Way l q (fun v => 0 ≤ v ∧ W2.testBit v.toNat = true) by have := HW2'.out; rw [hp2, hWW] at this; exact this)
        clear HX HW2' hp2 hWW
        go_wp2_with (go_at_call 17; refine (rkind_any _ hbk.out.1 hbk.out.2 _).mono ?_; rintro e w1 ⟨rfl, hb⟩; obtain ⟨a0, a1, a2, a3, _⟩ := (hA.below hb).cells; replace HB := stp HB hb; clear hb)
        refine (HN.out _ (HH.out.2.2.1.below HB.out) (L + 1) hL).mono ?_
        rintro e w2 ⟨a, rfl, hnx, _, hb⟩
        replace HB := stp HB hb
        clear hb a0 a1 a2 a3 q0 q1 q2 q3 hA HR
        rcases hnx with h | ⟨g', rfl, _, hcell⟩
        · rw [h] at hL; simp at hL
        obtain ⟨y0, hy0⟩ : ∃ y, js[0]'(by omega) = y := ⟨_, rfl⟩
        obtain ⟨y1, hy1⟩ : ∃ y, js[L]'(by omega) = y := ⟨_, rfl⟩
        have cy0 := hcell 0 (by omega)
        have cy1 := hcell L (by omega)
        rw [hy0] at cy0
        rw [hy1] at cy1
        have HY0 := hid (HW2.out y0 (by rw [← hy0]; exact List.getElem_mem _))
        have HY1 := hid (HW2.out y1 (by rw [← hy1]; exact List.getElem_mem _))
        have n0 : ¬ (y0 : Int) ≤ (p : Int) := by have := HY0.out.1; omega
        have n1 : ¬ (y1 : Int) ≤ (p : Int) := by have := HY1.out.1; omega
        clear hcell hy0 hy1
        by_cases hs : s < m
        · have i3 : (s : Int) < (m : Int) := by omega
          rcases (HH.out.2.2.2.2.1).below HB.out with h | ⟨bb, oo, rfl, _, hpk⟩
          · have := HH.out.2.2.2.1; rw [h] at this; simp at this; omega
          have cp := hpk s (by rw [HH.out.2.2.2.1]; exact hs)
          generalize ps[s]'(by rw [HH.out.2.2.2.1]; exact hs) = pv at cp
          clear hpk
          cases pv
          · go_wp2
            go_roundw
            case rel => exact ⟨y0, W2, s + 1, rfl, rfl, by go_num, by have := HY0.out.1; omega, by have := HY0.out.2.1; rw [HH.out.1] at this; exact this, hW2, HB.out, HY0.out.2⟩
            case measure => have h1 := HY0.out.1; have h2 := HY0.out.2.1; rw [HH.out.1] at h2; simp [intOf]; omega
          · go_wp2
            go_roundw
            case rel => exact ⟨y1, W2, s + 1, rfl, rfl, by go_num, by have := HY1.out.1; omega, by have := HY1.out.2.1; rw [HH.out.1] at this; exact this, hW2, HB.out, HY1.out.2⟩
            case measure => have h1 := HY1.out.1; have h2 := HY1.out.2.1; rw [HH.out.1] at h2; simp [intOf]; omega
        · have i3 : ¬ (s : Int) < (m : Int) := by omega
          go_wp2
          go_roundw
          case rel => exact ⟨y0, W2, s + 1, rfl, rfl, by go_num, by have := HY0.out.1; omega, by have := HY0.out.2.1; rw [HH.out.1] at this; exact this, hW2, HB.out, HY0.out.2⟩
          case measure => have h1 := HY0.out.1; have h2 := HY0.out.2.1; rw [HH.out.1] at h2; simp [intOf]; omega
      · have HW2 := hid (HX.out.1 (by rw [e8, e9]; rfl))
        clear HX
        go_wp2_with (go_at_call 17; refine (rkind_any _ hbk.out.1 hbk.out.2 _).mono ?_; rintro e w1 ⟨rfl, hb⟩; obtain ⟨a0, a1, a2, a3, _⟩ := (hA.below hb).cells; replace HB := stp HB hb; clear hb)
        refine (HN.out _ (HH.out.2.2.1.below HB.out) (L + 1) hL).mono ?_
        rintro e w2 ⟨a, rfl, hnx, _, hb⟩
        replace HB := stp HB hb
        clear hb a0 a1 a2 a3 q0 q1 q2 q3 hA HR
        rcases hnx with h | ⟨g', rfl, _, hcell⟩
        · rw [h] at hL; simp at hL
        obtain ⟨y0, hy0⟩ : ∃ y, js[0]'(by omega) = y := ⟨_, rfl⟩
        obtain ⟨y1, hy1⟩ : ∃ y, js[L]'(by omega) = y := ⟨_, rfl⟩
        have cy0 := hcell 0 (by omega)
        have cy1 := hcell L (by omega)
        rw [hy0] at cy0
        rw [hy1] at cy1
        have HY0 := hid (HW2.out y0 (by rw [← hy0]; exact List.getElem_mem _))
        have HY1 := hid (HW2.out y1 (by rw [← hy1]; exact List.getElem_mem _))
        have n0 : ¬ (y0 : Int) ≤ (p : Int) := by have := HY0.out.1; omega
        have n1 : ¬ (y1 : Int) ≤ (p : Int) := by have := HY1.out.1; omega
        clear hcell hy0 hy1
        by_cases hs : s < m
        · have i3 : (s : Int) < (m : Int) := by omega
          rcases (HH.out.2.2.2.2.1).below HB.out with h | ⟨bb, oo, rfl, _, hpk⟩
          · have := HH.out.2.2.2.1; rw [h] at this; simp at this; omega
          have cp := hpk s (by rw [HH.out.2.2.2.1]; exact hs)
          generalize ps[s]'(by rw [HH.out.2.2.2.1]; exact hs) = pv at cp
          clear hpk
          cases pv
          · go_wp2
            go_roundw
            case rel => exact ⟨y0, W, s + 1, rfl, rfl, by go_num, by have := HY0.out.1; omega, by have := HY0.out.2.1; rw [HH.out.1] at this; exact this, hW, HB.out, HY0.out.2⟩
            case measure => have h1 := HY0.out.1; have h2 := HY0.out.2.1; rw [HH.out.1] at h2; simp [intOf]; omega
          · go_wp2
            go_roundw
            case rel => exact ⟨y1, W, s + 1, rfl, rfl, by go_num, by have := HY1.out.1; omega, by have := HY1.out.2.1; rw [HH.out.1] at this; exact this, hW, HB.out, HY1.out.2⟩
            case measure => have h1 := HY1.out.1; have h2 := HY1.out.2.1; rw [HH.out.1] at h2; simp [intOf]; omega
        · have i3 : ¬ (s : Int) < (m : Int) := by omega
          go_wp2
          go_roundw
          case rel => exact ⟨y0, W, s + 1, rfl, rfl, by go_num, by have := HY0.out.1; omega, by have := HY0.out.2.1; rw [HH.out.1] at this; exact this, hW, HB.out, HY0.out.2⟩
          case measure => have h1 := HY0.out.1; have h2 := HY0.out.2.1; rw [HH.out.1] at h2; simp [intOf]; omega
end Go.Proofs.Ytcojhfppipdfoaa.B
