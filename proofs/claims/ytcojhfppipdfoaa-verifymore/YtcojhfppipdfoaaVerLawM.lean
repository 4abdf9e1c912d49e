/-
  The walk of one statement: a filter behind instructions that load is one, too; with one more behind it that returns, too.
-/
import Derived.Test.YtcojhfppipdfoaaVerApp
namespace Go.Proofs.Ytcojhfppipdfoaa.M
def plainB (x : I) : Bool := kind x.1 == 3 || kind x.1 == 5 || kind x.1 == 2 || kind x.1 == 7 || kind x.1 == 15 || kind x.1 == 16
theorem plainB_iff {x : I} (h : plainB x = true) : plain x := by
  unfold plainB at h
  unfold plain
  simp only [Bool.or_eq_true, beq_iff_eq] at h
  omega
end Go.Proofs.Ytcojhfppipdfoaa.M
namespace Go.Proofs.Ytcojhfppipdfoaa.B
open Go.ChangeShapes Go.WideShapes Go.ChangeAt Go.RowKit
open Go.Sort hiding Below
set_option linter.unusedVariables false

set_option maxHeartbeats 3200000 in
set_option maxRecDepth 1000000 in
theorem lawM_skip (a : Option Addr) (n cap : Nat) (c : Option Addr) (m cap' : Nat) (hm : n ≤ 9223372036854775807) (hm' : m ≤ 9223372036854775807) (w : World) (h : 200 < n ∨ 50 < m) :
    Calls Try.prog 6 #[.slice a n cap, .slice c m cap'] w fun e w' => e = .returned (.bool true) ∧ Below w.heap.size w w' := by
  have cs : decide ((200 : Int) < (n : Int)) = true ∨ decide ((200 : Int) < (n : Int)) = false ∧ decide ((50 : Int) < (m : Int)) = true := by
    by_cases h1 : 200 < n
    · left; exact decide_eq_true (by omega)
    · right; exact ⟨decide_eq_false (by omega), decide_eq_true (by omega)⟩
  have HB := hid (Below.refl w.heap.size w)
  clear h
  rcases cs with d1 | ⟨d1, d2⟩
  all_goals
    go_enter Try.func6, Try.ntmps6
    go_wp2_with (go_at_call 9; refine (awake_any _).mono ?_; rintro e w1 ⟨rfl, hb⟩; replace HB := stp HB hb; clear hb)
    go_ret
    exact ⟨rfl, HB.out⟩

set_option maxHeartbeats 3200000 in
set_option maxRecDepth 1000000 in
theorem lawM_main (a : Option Addr) (n cap : Nat) (c : Option Addr) (m cap' : Nat) (l hd : List M.I) (hln : l.length = n) (hlm : hd.length = m) (hn : n ≤ 200) (hm : m ≤ 50) (ok : ∀ i ∈ l, M.okI i) (okh : ∀ i ∈ hd, M.okI i) (w : World) (hl : Lies w a l) (hh : Lies w c hd) :
    Calls Try.prog 6 #[.slice a n cap, .slice c m cap'] w fun e w' => e = .returned (.bool true) ∧ Below w.heap.size w w' := by
  have d1 : decide ((200 : Int) < (n : Int)) = false := decide_eq_false (by omega)
  have d2 : decide ((50 : Int) < (m : Int)) = false := decide_eq_false (by omega)
  have HB := hid (Below.refl w.heap.size w)
  have HH := hid (And.intro hln (And.intro hlm (And.intro ok (And.intro okh (And.intro hl hh)))))
  clear hln hlm ok okh hl hh
  go_enter Try.func6, Try.ntmps6
  go_wp2_with (go_at_call 9; refine (awake_any _).mono ?_; rintro e w1 ⟨rfl, hb⟩; replace HB := stp HB hb; clear hb)
  go_loopw [5, 24] (fun v i wr => ∃ (k r cap1 : Nat) (a1 : Option Addr), k ≤ m ∧ r ≤ k ∧ v = .slice a1 r cap1 ∧ i = .int .i64 k ∧ Hid (Own wr w1.heap.size a1 r cap1 ((hd.take k).filter M.plainB) ∧ Below w1.heap.size w1 wr)) (fun _ i _ => m - (intOf i).toNat)
  case atStart => exact ⟨0, 0, 0, none, Nat.zero_le _, Nat.zero_le _, rfl, rfl, Own.nil _ _, Below.refl _ _⟩
  case round =>
    obtain ⟨k, r, cap1, a1, hk, hrk, rfl, rfl, HR⟩ := hrel
    by_cases hlt : k < m
    · have i1 : (k : Int) < (m : Int) := by omega
      have hkl : k < hd.length := by rw [HH.out.2.1]; exact hlt
      obtain ⟨b, o, rfl, hly⟩ := HH.out.2.2.2.2.2.ly (by omega)
      obtain ⟨x, hx⟩ : ∃ x, hd[k] = x := ⟨_, rfl⟩
      have hok : M.okI x := hx ▸ HH.out.2.2.2.1 _ (List.getElem_mem hkl)
      have hp0 := (hly.below (stp HB HR.out.2).out).2 k hkl
      rw [hx] at hp0
      have HT := hid (show (hd.take (k + 1)).filter M.plainB = (hd.take k).filter M.plainB ++ (if M.plainB x then [x] else []) by
        rw [List.take_succ_eq_append_getElem hkl, List.filter_append, hx]
        congr 1
        by_cases h : M.plainB x = true
        · rw [if_pos h, List.filter_cons_of_pos h]; rfl
        · rw [if_neg h, List.filter_cons_of_neg h]; rfl)
      clear hx hly
      obtain ⟨c0, t, f, kk⟩ := x
      obtain ⟨q0, q1, q2, q3⟩ := hp0
      simp only at q0 q1 q2 q3
      have hbk := hid hok.1
      simp only at hbk
      have hpl : M.plainB (c0, t, f, kk) = (M.kind c0 == 3 || M.kind c0 == 5 || M.kind c0 == 2 || M.kind c0 == 7 || M.kind c0 == 15 || M.kind c0 == 16) := rfl
      have hA := At.new wr c0 t f kk
      have HO := hid (And.intro (HR.out.1.below (al wr (.cells #[.int .u16 c0, .int .u8 t, .int .u8 f, .int .u32 kk] 38))) ((stp (hid HR.out.2) (al wr (.cells #[.int .u16 c0, .int .u8 t, .int .u8 f, .int .u32 kk] 38))).out))
      obtain ⟨acc, hacc⟩ : ∃ acc, (hd.take k).filter M.plainB = acc := ⟨_, rfl⟩
      rw [hacc] at HO HT
      have HAcc := hid hacc
      clear hok hacc
      have cs : (M.plainB (c0, t, f, kk) = true ∧ ((M.kind c0 != 3) = false ∨ (M.kind c0 != 3) = true ∧ ((M.kind c0 != 5) = false ∨ (M.kind c0 != 5) = true ∧ ((M.kind c0 != 2) = false ∨ (M.kind c0 != 2) = true ∧ ((M.kind c0 != 7) = false ∨ (M.kind c0 != 7) = true ∧ ((M.kind c0 != 15) = false ∨ (M.kind c0 != 15) = true ∧ (M.kind c0 != 16) = false)))))) ∨ (M.plainB (c0, t, f, kk) = false ∧ (M.kind c0 != 3) = true ∧ (M.kind c0 != 5) = true ∧ (M.kind c0 != 2) = true ∧ (M.kind c0 != 7) = true ∧ (M.kind c0 != 15) = true ∧ (M.kind c0 != 16) = true) := by
        rw [hpl]
        simp only [bne]
        cases (M.kind c0 == 3) <;> cases (M.kind c0 == 5) <;> cases (M.kind c0 == 2) <;> cases (M.kind c0 == 7) <;> cases (M.kind c0 == 15) <;> cases (M.kind c0 == 16) <;> simp
      clear hpl
      rcases cs with ⟨hp, cs⟩ | ⟨hp, d3, d4, d5, d6, d7, d8⟩
      · rw [hp, if_pos rfl] at HT
        rcases cs with d3 | ⟨d3, d4 | ⟨d4, d5 | ⟨d5, d6 | ⟨d6, d7 | ⟨d7, d8⟩⟩⟩⟩⟩
        all_goals
          go_wp2_with (first
            | (go_at_call 17; refine (rkind_any _ hbk.out.1 hbk.out.2 _).mono ?_; rintro e w2 ⟨rfl, hb⟩; obtain ⟨a0, a3, a4, a5, _⟩ := (hA.below hb).cells; replace HO := hid (And.intro (HO.out.1.below hb) ((stp (hid HO.out.2) hb).out)); clear hb)
            | (at_builtin; refine wpList_append_row (by rfl) _ _ rfl w1.heap.size r 1 cap1 1 a1 (some ⟨w2.heap.size, 0, none⟩) acc [(c0, t, f, kk)] rfl (HO.out.1.below (al _ _)) rfl (lies_lit w2 [(c0, t, f, kk)] 1 rfl (by unfold maxLen; omega)) rfl (by omega) (stp (hid HO.out.2) (al _ _)).out.size ?_))
          intro a2 cap2 w3 hown hb
          have HQ := hid (show Own w3 w1.heap.size a2 (r + 1) cap2 ((hd.take (k + 1)).filter M.plainB) ∧ Below w1.heap.size w1 w3 from ⟨by rw [HT.out]; exact hown, (stp (hid HO.out.2) (al _ _)).out.trans hb⟩)
          clear hown hb HO HT
          go_wp2
          go_roundw
          case rel => exact ⟨k + 1, r + 1, cap2, a2, by omega, by omega, rfl, by go_num, HQ.out⟩
          case measure => simp [intOf]; omega
      · rw [hp, if_neg (by simp), List.append_nil] at HT
        go_wp2_with (go_at_call 17; refine (rkind_any _ hbk.out.1 hbk.out.2 _).mono ?_; rintro e w2 ⟨rfl, hb⟩; replace HO := hid (And.intro (HO.out.1.below hb) ((stp (hid HO.out.2) hb).out)); clear hb)
        go_roundw
        case rel => exact ⟨k + 1, r, cap1, a1, by omega, by omega, rfl, by go_num, by rw [HT.out]; exact HO.out⟩
        case measure => simp [intOf]; omega
    · obtain rfl : k = m := by omega
      obtain ⟨acc, hacc⟩ : ∃ acc, (hd.take k).filter M.plainB = acc := ⟨_, rfl⟩
      rw [hacc] at HR
      have hpl : ∀ x ∈ acc, M.plain x := by
        intro x hx
        rw [← hacc] at hx
        exact M.plainB_iff (List.mem_filter.1 hx).2
      have hoka : ∀ x ∈ acc, M.okI x := by
        intro x hx
        rw [← hacc] at hx
        exact HH.out.2.2.2.1 x (List.mem_of_mem_take (List.mem_filter.1 hx).1)
      obtain ⟨rb, hrb⟩ : ∃ rb, M.rightB l = rb := ⟨_, rfl⟩
      have hb1 : M.rightB (acc ++ l) = rb := by
        rw [← hrb, Bool.eq_iff_iff, M.right_of, M.right_of]
        exact M.right_behind hpl (by rw [HR.out.1.len, HH.out.1]; omega)
      have HX := hid (And.intro hoka (And.intro hrb hb1))
      clear hpl hoka hrb hb1 hacc
      have HB2 := stp HB HR.out.2
      go_wp2_with (at_builtin; refine wpList_append_row (by rfl) _ _ rfl wr.heap.size 0 r 0 cap1 (some ⟨wr.heap.size, 0, none⟩) a1 [] acc rfl (Own.new wr) rfl ((HR.out.1.below (al _ _)).lies) HR.out.1.len (by omega) (by simp) ?_)
      intro a2 cap2 w2 hown hb
      try simp only [Nat.zero_add, List.nil_append] at hown
      have hb2 : Below wr.heap.size wr w2 := (al wr _).trans hb
      have HO := hid (And.intro hown hb2)
      clear hown hb hb2
      go_wp2_with (at_builtin; refine wpList_append_row (by rfl) _ _ rfl wr.heap.size r n cap2 cap a2 a acc l rfl HO.out.1 rfl (HH.out.2.2.2.2.1.below (stp HB2 HO.out.2).out) HH.out.1 (by omega) HO.out.2.size ?_)
      intro a3 cap3 w3 hown hb
      have HO3 := hid (And.intro hown (HO.out.2.trans hb))
      clear hown hb HO
      have HB3 := stp HB2 HO3.out.2
      go_wp2_with fail
      refine (right_any a3 (r + n) cap3 (acc ++ l) HO3.out.1.len (by omega) (by intro i hi; rcases List.mem_append.1 hi with h | h; exact HX.out.1 i h; exact HH.out.2.2.1 i h) _ HO3.out.1.lies rb HX.out.2.2).mono ?_
      rintro e w4 ⟨rfl, hb⟩
      replace HB3 := stp HB3 hb
      clear hb HO3
      go_wp2_with fail
      refine (right_any a n cap l HH.out.1 (by omega) HH.out.2.2.1 _ (HH.out.2.2.2.2.1.below HB3.out) rb HX.out.2.1).mono ?_
      rintro e w5 ⟨rfl, hb⟩
      replace HB3 := stp HB3 hb
      clear hb
      go_wp2_with fail
      refine (right_any a n cap l HH.out.1 (by omega) HH.out.2.2.1 _ (HH.out.2.2.2.2.1.below HB3.out) rb HX.out.2.1).mono ?_
      rintro e w6 ⟨rfl, hb⟩
      replace HB3 := stp HB3 hb
      clear hb
      cases rb
      · go_wp2
        go_ret
        exact ⟨rfl, HB3.out⟩
      · have HM := hid (show M.rightB (l ++ [(6, 0, 0, 0)]) = true by
          rw [M.right_of]
          exact M.right_more (by decide) (by decide) (M.right_of.1 HX.out.2.1) (by rw [HH.out.1]; omega))
        go_wp2_with (at_builtin; refine wpList_append_row (by rfl) _ _ rfl w6.heap.size 0 n 0 cap (some ⟨w6.heap.size, 0, none⟩) a [] l rfl (Own.new w6) rfl (HH.out.2.2.2.2.1.below (stp HB3 (al _ _)).out) HH.out.1 (by omega) (by simp) ?_)
        intro a7 cap7 w7 hown hb
        try simp only [Nat.zero_add, List.nil_append] at hown
        have hb2 : Below w6.heap.size w6 w7 := (al w6 _).trans hb
        have HO := hid (And.intro hown hb2)
        clear hown hb hb2
        go_wp2_with (first
          | (go_at_call 19; refine (ret_any _).mono ?_; rintro e w8 ⟨rfl, hb⟩; replace HO := hid (And.intro (HO.out.1.below hb) ((stp (hid HO.out.2) hb).out)); clear hb)
          | (at_builtin; refine wpList_append_row (by rfl) _ _ rfl w6.heap.size n 1 cap7 1 a7 (some ⟨w8.heap.size, 0, none⟩) l [(6, 0, 0, 0)] rfl (HO.out.1.below (al _ _)) rfl (lies_lit w8 [(6, 0, 0, 0)] 1 rfl (by unfold maxLen; omega)) rfl (by omega) (stp (hid HO.out.2) (al _ _)).out.size ?_))
        intro a9 cap9 w9 hown hb
        have HO9 := hid (And.intro hown ((stp (hid HO.out.2) (al _ _)).out.trans hb))
        clear hown hb HO
        have HB9 := stp HB3 HO9.out.2
        go_wp2_with fail
        refine (right_any a9 (n + 1) cap9 (l ++ [(6, 0, 0, 0)]) HO9.out.1.len (by omega) (by intro i hi; rcases List.mem_append.1 hi with h | h; exact HH.out.2.2.1 i h; simp at h; rw [h]; unfold M.okI; decide) _ HO9.out.1.lies true HM.out).mono ?_
        rintro e w10 ⟨rfl, hb⟩
        replace HB9 := stp HB9 hb
        clear hb
        go_wp2
        go_ret
        exact ⟨rfl, HB9.out⟩

theorem lawM (a : Option Addr) (n cap : Nat) (c : Option Addr) (m cap' : Nat) (l hd : List M.I) (hln : l.length = n) (hlm : hd.length = m) (hn : n ≤ 9223372036854775807) (hm : m ≤ 9223372036854775807) (ok : ∀ i ∈ l, M.okI i) (okh : ∀ i ∈ hd, M.okI i) (w : World) (hl : Lies w a l) (hh : Lies w c hd) :
    Calls Try.prog 6 #[.slice a n cap, .slice c m cap'] w fun e w' => e = .returned (.bool true) ∧ Below w.heap.size w w' := by
  by_cases h : 200 < n ∨ 50 < m
  · exact lawM_skip a n cap c m cap' hn hm w h
  · exact lawM_main a n cap c m cap' l hd hln hlm (by omega) (by omega) ok okh w hl hh
end Go.Proofs.Ytcojhfppipdfoaa.B
