/-
  The walk of one statement: of instructions that load there may be 4096 with the one that returns, and a jump goes as far as the last one.
-/
import Derived.Test.YtcojhfppipdfoaaVerApp
namespace Go.Proofs.Ytcojhfppipdfoaa.M
def lds (q : Nat) : List I := (List.range q).map fun j => (0, 0, 0, ((j + 1 : Nat) : Int))
def longL (far : Int) (q : Nat) : List I := (5, 0, 0, far) :: lds q
theorem longL_succ (far : Int) (q : Nat) : longL far (q + 1) = longL far q ++ [(0, 0, 0, ((q + 1 : Nat) : Int))] := by
  unfold longL lds; rw [List.range_succ]; simp
theorem longL_len (far : Int) (q : Nat) : (longL far q).length = q + 1 := by simp [longL, lds]
def long (far : Int) (q : Nat) : List I := longL far q ++ [(6, 0, 0, 0)]
theorem long_len (far : Int) (q : Nat) : (long far q).length = q + 2 := by simp [long, longL_len]
theorem long_mem {far : Int} {q : Nat} {x : I} (h : x ∈ long far q) : x = (5, 0, 0, far) ∨ x = (6, 0, 0, 0) ∨ ∃ j : Nat, j < q ∧ x = (0, 0, 0, ((j + 1 : Nat) : Int)) := by
  unfold long longL lds at h
  simp only [List.cons_append, List.mem_cons, List.mem_append, List.mem_map, List.mem_range, List.not_mem_nil, or_false] at h
  rcases h with h | ⟨j, hj, rfl⟩ | h
  · exact .inl h
  · exact .inr (.inr ⟨j, hj, rfl⟩)
  · exact .inr (.inl h)
theorem k5 : kind 5 = 11 := by decide
theorem k6 : kind 6 = 13 := by decide
theorem k0 : kind 0 = 3 := by decide
theorem long_ok {far : Int} {q : Nat} (hf : 0 ≤ far ∧ far < 4294967296) (hq : q ≤ 65536) : ∀ x ∈ long far q, okI x := by
  intro x hx
  rcases long_mem hx with rfl | rfl | ⟨j, hj, rfl⟩
  · unfold okI; simp only; omega
  · unfold okI; simp only; omega
  · unfold okI; simp only; omega
theorem long_loc {far : Int} {q i : Nat} (h : i < (long far q).length) : loc (long far q).length i (long far q)[i] = if (long far q)[i] = (5, 0, 0, far) then jpE (q + 2) i far else 0 := by
  have hm := long_mem (List.getElem_mem h)
  rw [long_len]
  generalize (long far q)[i] = x at *
  rcases hm with rfl | rfl | ⟨j, _, rfl⟩
  · rw [if_pos rfl, loc11 k5]
  · rw [if_neg (by simp), loc_else (by rw [k6]; decide)]
  · rw [if_neg (by simp), loc_else (by rw [k0]; decide)]
theorem long_zero (far : Int) (q : Nat) : (long far q)[0]'(by rw [long_len]; omega) = (5, 0, 0, far) := rfl
theorem long_first {far : Int} {q i : Nat} (h : i < (long far q).length) (he : (long far q)[i] = (5, 0, 0, far)) : i = 0 := by
  cases i with
  | zero => rfl
  | succ i =>
    exfalso
    have e : (long far q)[i + 1] = (lds q ++ [(6, 0, 0, 0)])[i]'(by rw [long_len] at h; simp [lds]; omega) := rfl
    rw [e] at he
    have hm := List.getElem_mem (l := lds q ++ [(6, 0, 0, 0)]) (n := i) (by rw [long_len] at h; simp [lds]; omega)
    rw [he] at hm
    simp [lds] at hm
theorem long_check_long {far : Int} {q : Nat} (h : 4096 < q + 2) : check (long far q) = (0, 5) := by
  have : lnE (long far q).length = 5 := by unfold lnE; rw [long_len, if_neg (by omega), if_pos h]
  rw [check_short (by rw [this]; decide), this]
theorem long_check_far {far : Int} {q : Nat} (h : q + 2 ≤ 4096) (hf : ((q + 2 : Nat) : Int) ≤ far + 1) : check (long far q) = (0, 7) := by
  have hl : lnE (long far q).length = 0 := by unfold lnE; rw [long_len, if_neg (by omega), if_neg (by omega)]
  have h0 : 0 < (long far q).length := by rw [long_len]; omega
  have hloc : loc (long far q).length 0 (long far q)[0] = 7 := by
    rw [long_loc h0, if_pos (long_zero far q)]
    unfold jpE; rw [if_pos (by omega)]
  have hw := wa_some h0 (by rw [hloc]; decide) (fun j hj => by omega)
  rw [check_alone hl (by rw [hw, hloc]; decide), hw, hloc]
theorem long_check_ok {far : Int} {q : Nat} (h : q + 2 ≤ 4096) (hf : far + 1 < ((q + 2 : Nat) : Int)) : check (long far q) = (0, 0) := by
  show right (long far q)
  rw [right_iff]
  refine ⟨by rw [long_len]; omega, fun i hi => ?_, ?_, fun i hi => ?_⟩
  · rw [wrong_at hi, long_loc hi]
    split
    · rename_i e
      have := long_first hi e
      subst this
      unfold jpE; rw [if_neg (by omega)]; rfl
    · rfl
  · have e : (long far q).getD ((long far q).length - 1) (0, 0, 0, 0) = (6, 0, 0, 0) := by
      rw [List.getD_eq_getElem?_getD, long_len]
      unfold long
      rw [List.getElem?_append_right (by rw [longL_len]; omega), longL_len]
      simp
    rw [e]; decide
  · rw [raw_at hi]
    have hm := long_mem (List.getElem_mem hi)
    generalize (long far q)[i] = x at *
    have : rdW x = false := by
      unfold rdW
      rcases hm with rfl | rfl | ⟨j, _, rfl⟩
      · simp only [k5]; decide
      · simp only [k6]; decide
      · simp only [k0]; decide
    rw [this]; rfl
end Go.Proofs.Ytcojhfppipdfoaa.M
namespace Go.Proofs.Ytcojhfppipdfoaa.B
open Go.ChangeShapes Go.WideShapes Go.ChangeAt Go.RowKit
open Go.Sort hiding Below
set_option linter.unusedVariables false

def qlen : Value → Nat
  | .slice _ q _ => q
  | _ => 0
set_option maxHeartbeats 3200000 in
set_option maxRecDepth 1000000 in
theorem lawL (n far : Int) (hf : 0 ≤ far ∧ far < 4294967296) (w : World) :
    Calls Try.prog 8 #[.int .i64 n, .int .u32 far] w fun e w' => e = .returned (.bool true) ∧ Below w.heap.size w w' := by
  obtain ⟨N, hN, hN1, hN2⟩ : ∃ N : Nat, wrap64 (4090 + wrap64 ((IntKind.u64.wrap n).tmod 12)) = (N : Int) + 2 ∧ 4088 ≤ N ∧ N ≤ 4099 := by
    have h1 : 0 ≤ IntKind.u64.wrap n := by rw [IntKind.wrap_u64]; omega
    have h2 := Int.emod_nonneg (IntKind.u64.wrap n) (show (12 : Int) ≠ 0 by decide)
    have h3 := Int.emod_lt_of_pos (IntKind.u64.wrap n) (show (0 : Int) < 12 by decide)
    rw [Int.tmod_eq_emod_of_nonneg h1]
    generalize IntKind.u64.wrap n % 12 = r at *
    refine ⟨(4088 + r).toNat, ?_, by omega, by omega⟩
    unfold wrap64; omega
  obtain ⟨w0, hw0⟩ : ∃ w0, w.alloc (.cells #[.int .u16 5, .int .u8 0, .int .u8 0, .int .u32 far] 38) = w0 := ⟨_, rfl⟩
  have HI := hid (show Own w0 w.heap.size (some ⟨w.heap.size, 0, none⟩) 1 1 (M.longL far 0) ∧ Below w.heap.size w w0 from by
    rw [← hw0]
    exact ⟨⟨World.ownsRow_lit (base := w.heap.size) (e := 38) (size := 4) w #[.int .u16 5, .int .u8 0, .int .u8 0, .int .u32 far] 1 (Nat.le_refl _) (by unfold maxLen; omega) rfl, rfl⟩, al _ _⟩)
  have HW0 := hid hw0
  have HF := hid hf
  clear hw0
  go_enter Try.func8, Try.ntmps8
  go_wp2
  rw [HW0.out]
  try rw [hN]
  clear hN
  go_loopw [5] (fun v wr => ∃ (q cap : Nat) (a : Option Addr), q ≤ N ∧ v = .slice a (q + 1) cap ∧ Hid (Own wr w.heap.size a (q + 1) cap (M.longL far q) ∧ Below w.heap.size w wr)) (fun v _ => N + 2 - qlen v)
  case atStart => exact ⟨0, 1, _, Nat.zero_le _, rfl, HI.out⟩
  case round =>
    clear HI HW0
    obtain ⟨q, cap, a, hq, rfl, HR⟩ := hrel
    by_cases hlt : q < N
    · have i1 : (q : Int) < (N : Int) := by omega
      have i2 : (q : Int) + 1 < (N : Int) + 1 := by omega
      have HT := hid (show M.longL far (q + 1) = M.longL far q ++ [(0, 0, 0, (q : Int) + 1)] by rw [M.longL_succ]; simp)
      go_wp2_with (at_builtin; refine wpList_append_row (by rfl) _ _ rfl w.heap.size (q + 1) 1 cap 1 a (some ⟨wr.heap.size, 0, none⟩) (M.longL far q) [(0, 0, 0, (q : Int) + 1)] rfl (HR.out.1.below (al _ _)) rfl (lies_lit wr [(0, 0, 0, (q : Int) + 1)] 1 rfl (by unfold maxLen; omega)) rfl (by omega) (stp (hid HR.out.2) (al _ _)).out.size ?_)
      intro a2 cap2 w2 hown hb
      have HQ := hid (show Own w2 w.heap.size a2 (q + 1 + 1) cap2 (M.longL far (q + 1)) ∧ Below w.heap.size w w2 from ⟨by rw [HT.out]; exact hown, (stp (hid HR.out.2) (al _ _)).out.trans hb⟩)
      clear hown hb HT HR
      go_wp2
      go_roundw
      case rel => exact ⟨q + 1, cap2, a2, by omega, rfl, HQ.out⟩
      case measure => show N + 2 - (q + 1 + 1) < N + 2 - (q + 1); omega
    · obtain rfl : q = N := by omega
      have HP : Hid (∀ i ∈ M.long far q, M.okI i) := M.long_ok HF.out (by omega)
      obtain ⟨⟨p, e0⟩, hp⟩ : ∃ x, M.check (M.long far q) = x := ⟨_, rfl⟩
      have hr : M.rightB (M.long far q) = (e0 == 0) := by unfold M.rightB; rw [hp]
      have HC := hid (fun a cap w hl => check_any a (q + 2) cap (M.long far q) (M.long_len far q) (by omega) HP.out w hl p e0 hp)
      have HRt := hid (fun a cap w hl => right_any a (q + 2) cap (M.long far q) (M.long_len far q) (by omega) HP.out w hl (e0 == 0) hr)
      have cs : (decide (4096 < (q : Int) + 2) = true ∧ p = 0 ∧ e0 = 5) ∨ (decide (4096 < (q : Int) + 2) = false ∧ (decide ((q : Int) + 2 ≤ far + 1) = true ∧ p = 0 ∧ e0 = 7 ∨ decide ((q : Int) + 2 ≤ far + 1) = false ∧ p = 0 ∧ e0 = 0)) := by
        by_cases h : 4096 < q + 2
        · left
          rw [M.long_check_long h] at hp
          simp only [Prod.mk.injEq] at hp
          exact ⟨decide_eq_true (by omega), hp.1.symm, hp.2.symm⟩
        · right
          refine ⟨decide_eq_false (by omega), ?_⟩
          by_cases h2 : (q : Int) + 2 ≤ far + 1
          · left
            rw [M.long_check_far (by omega) (by omega)] at hp
            simp only [Prod.mk.injEq] at hp
            exact ⟨decide_eq_true h2, hp.1.symm, hp.2.symm⟩
          · right
            rw [M.long_check_ok (by omega) (by omega)] at hp
            simp only [Prod.mk.injEq] at hp
            exact ⟨decide_eq_false h2, hp.1.symm, hp.2.symm⟩
      clear hp hr HP
      have i1 : ¬ (q : Int) + 1 < (q : Int) + 1 := by omega
      go_wp2_with (first
        | (go_at_call 19; refine (ret_any _).mono ?_; rintro e w2 ⟨rfl, hb⟩; replace HR := hid (And.intro (HR.out.1.below hb) ((stp (hid HR.out.2) hb).out)); clear hb)
        | (at_builtin; refine wpList_append_row (by rfl) _ _ rfl w.heap.size (q + 1) 1 cap 1 a (some ⟨w2.heap.size, 0, none⟩) (M.longL far q) [(6, 0, 0, 0)] rfl (HR.out.1.below (al _ _)) rfl (lies_lit w2 [(6, 0, 0, 0)] 1 rfl (by unfold maxLen; omega)) rfl (by omega) (stp (hid HR.out.2) (al _ _)).out.size ?_))
      intro a3 cap3 w3 hown hb
      have HQ := hid (show Lies w3 a3 (M.long far q) from hown.lies)
      have HB := hid (show Below w.heap.size w w3 from (stp (hid HR.out.2) (al _ _)).out.trans hb)
      clear hown hb HR
      go_wp2_with fail
      refine (HC.out _ _ _ HQ.out).mono ?_
      rintro e w4 ⟨rfl, hb⟩
      replace HB := stp HB hb
      replace HQ := hid (HQ.out.below hb)
      clear hb HC
      go_wp2_with fail
      refine (awake_any _).mono ?_
      rintro e w5 ⟨rfl, hb⟩
      replace HB := stp HB hb
      replace HQ := hid (HQ.out.below hb)
      clear hb
      have b1 : 0 ≤ far := HF.out.1
      have b2 : far < 4294967296 := HF.out.2
      rcases cs with ⟨d1, rfl, rfl⟩ | ⟨d1, ⟨d2, rfl, rfl⟩ | ⟨d2, rfl, rfl⟩⟩
      all_goals
        go_wp2_with (go_at_call 12; refine (HRt.out _ _ _ HQ.out).mono ?_; rintro e w6 ⟨rfl, hb⟩; replace HB := stp HB hb; clear hb)
        go_ret
        exact ⟨rfl, HB.out⟩
end Go.Proofs.Ytcojhfppipdfoaa.B
