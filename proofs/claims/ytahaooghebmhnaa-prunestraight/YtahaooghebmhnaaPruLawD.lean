/-
  The walk of the statement PruneDead, over what the program's own functions answer.
-/
import Derived.Test.YtahaooghebmhnaaPruLawS
namespace Go.Proofs.Ytahaooghebmhnaa.M
/-- an instruction that may stand where no way comes to -/
def deadB (x : I) : Bool := kind x.1 == 2 || kind x.1 == 3 || kind x.1 == 5 || kind x.1 == 7
theorem deadB_plain {x : I} (h : deadB x = true) : plain x := by
  unfold deadB at h
  simp only [Bool.or_eq_true, beq_iff_eq] at h
  unfold plain
  omega
theorem ret_ok : okI ((6, 0, 0, 0) : I) := by unfold okI; decide
end Go.Proofs.Ytahaooghebmhnaa.M
namespace Go.Proofs.Ytahaooghebmhnaa.B
open Go.ChangeShapes Go.WideShapes Go.ChangeAt Go.RowKit
open Go.Sort hiding Below
set_option linter.unusedVariables false

set_option maxHeartbeats 1600000 in
set_option maxRecDepth 100000 in
theorem pdead_big (hAw : Aw9) (a : Option Addr) (n cap : Nat) (c : Option Addr) (m cap' : Nat) (hn : 200 < n ∨ 100 < m) (w : World) :
    Calls Try.prog 6 #[.slice a n cap, .slice c m cap'] w fun e w' => e = .returned (.bool true) ∧ Below w.heap.size w w' := by
  have HB := hid (Below.refl w.heap.size w)
  have HAw := hid hAw
  clear hAw
  by_cases h1 : 200 < n
  · have hd : decide (200 < (n : Int)) = true := decide_eq_true (by omega)
    clear hn h1
    go_enter Try.func6, Try.ntmps6
    go_wp2_with fail
    refine (HAw.out _).mono ?_
    rintro e w1 ⟨rfl, hb⟩
    replace HB := stp HB hb
    clear hb
    go_wp2_with fail
    refine (HAw.out _).mono ?_
    rintro e w2 ⟨rfl, hb⟩
    replace HB := stp HB hb
    clear hb
    go_wp2
    go_ret
    exact ⟨rfl, HB.out⟩
  · have hd : decide (200 < (n : Int)) = false := decide_eq_false (by omega)
    have hd2 : decide (100 < (m : Int)) = true := decide_eq_true (by omega)
    clear hn h1
    go_enter Try.func6, Try.ntmps6
    go_wp2_with fail
    refine (HAw.out _).mono ?_
    rintro e w1 ⟨rfl, hb⟩
    replace HB := stp HB hb
    clear hb
    go_wp2_with fail
    refine (HAw.out _).mono ?_
    rintro e w2 ⟨rfl, hb⟩
    replace HB := stp HB hb
    clear hb
    go_wp2
    go_ret
    exact ⟨rfl, HB.out⟩
set_option maxHeartbeats 1600000 in
set_option maxRecDepth 100000 in
theorem pdead_bad (hAw : Aw9) (a : Option Addr) (n cap : Nat) (c : Option Addr) (m cap' : Nat) (l : List M.I) (hln : l.length = n) (hn : n ≤ 200) (hm : m ≤ 100) (ok : ∀ i ∈ l, M.okI i) (w : World) (hl : Lies w a l) (hbad : M.rightB l = false) :
    Calls Try.prog 6 #[.slice a n cap, .slice c m cap'] w fun e w' => e = .returned (.bool true) ∧ Below w.heap.size w w' := by
  have hd : decide (200 < (n : Int)) = false := decide_eq_false (by omega)
  have hd2 : decide (100 < (m : Int)) = false := decide_eq_false (by omega)
  have HB := hid (Below.refl w.heap.size w)
  have HRt := hid (fun W (h : Lies W a l) => rright9 a n cap l hln (by omega) ok W h false hbad)
  have HL := hid hl
  have HAw := hid hAw
  clear hl ok hbad hln hAw
  go_enter Try.func6, Try.ntmps6
  go_wp2_with fail
  refine (HAw.out _).mono ?_
  rintro e w1 ⟨rfl, hb⟩
  replace HB := stp HB hb
  clear hb
  go_wp2_with fail
  refine (HRt.out _ (HL.out.below HB.out)).mono ?_
  rintro e w2 ⟨rfl, hb⟩
  replace HB := stp HB hb
  clear hb
  go_wp2_with fail
  refine (HAw.out _).mono ?_
  rintro e w3 ⟨rfl, hb⟩
  replace HB := stp HB hb
  clear hb
  go_wp2
  go_ret
  exact ⟨rfl, HB.out⟩

set_option maxHeartbeats 6400000 in
set_option maxRecDepth 1000000 in
theorem pdead_good (hAw : Aw9) (hPr : PrOk) (b o n cap : Nat) (c : Option Addr) (m cap' : Nat) (l hd : List M.I) (hln : l.length = n) (hlm : hd.length = m) (hn : n ≤ 200) (hm : m ≤ 100) (ok : ∀ i ∈ l, M.okI i) (okh : ∀ i ∈ hd, M.okI i) (hr : M.right l) (w : World) (hl : Ly w b o l) (hh : Lies w c hd) :
    Calls Try.prog 6 #[.slice (some ⟨b, o, none⟩) n cap, .slice c m cap'] w fun e w' => e = .returned (.bool true) ∧ Below w.heap.size w w' := by
  have d1 : decide ((200 : Int) < (n : Int)) = false := decide_eq_false (by omega)
  have d2 : decide ((100 : Int) < (m : Int)) = false := decide_eq_false (by omega)
  have HB := hid (Below.refl w.heap.size w)
  have hlenp : (M.pruneL l).length ≤ n := by rw [← hln]; exact (M.prune_spec hr ok).2.2.2.1
  obtain ⟨pm, hpm⟩ : ∃ pm, (M.pruneL l).length = pm := ⟨_, rfl⟩
  have HP1 := hid (fun W (h : Ly W b o l) => hPr b o n cap l hln (by omega) ok hr W h)
  rw [hpm] at HP1 hlenp
  have HRt := hid (fun W (h : Ly W b o l) => rright9 (some ⟨b, o, none⟩) n cap l hln (by omega) ok W h.lies true (M.right_of.2 hr))
  have HSa := hid (fun a1 a2 c1 c2 (W : World) h1 h2 => rsame_len a1 a2 (M.pruneL l) (M.pruneL l) pm pm c1 c2 W hpm hpm h1 h2 (by omega) (by omega) true (decide_eq_true rfl))
  have HPr := hid hPr
  have HAw := hid hAw
  have HPm := hid hpm
  have HH := hid (And.intro hln (And.intro hlm (And.intro ok (And.intro okh (And.intro hl (And.intro hh hr))))))
  clear hln hlm ok okh hl hh hr hPr hAw hpm
  go_enter Try.func6, Try.ntmps6
  go_wp2_with fail
  refine (HAw.out _).mono ?_
  rintro e w1 ⟨rfl, hb⟩
  replace HB := stp HB hb
  clear hb
  go_wp2_with fail
  refine (HRt.out _ (HH.out.2.2.2.2.1.below HB.out)).mono ?_
  rintro e w2 ⟨rfl, hb⟩
  replace HB := stp HB hb
  clear hb
  go_wp2
  go_loopw [5, 34] (fun v i wr => ∃ (k r cap1 : Nat) (a1 : Option Addr), k ≤ m ∧ r ≤ k ∧ v = .slice a1 r cap1 ∧ i = .int .i64 k ∧ Hid (Own wr w2.heap.size a1 r cap1 ((hd.take k).filter M.deadB) ∧ Below w2.heap.size w2 wr)) (fun _ i _ => m - (intOf i).toNat)
  case atStart => exact ⟨0, 0, 0, none, Nat.zero_le _, Nat.zero_le _, rfl, rfl, Own.nil _ _, Below.refl _ _⟩
  case round =>
    obtain ⟨k, r, cap1, a1, hk, hrk, rfl, rfl, HR⟩ := hrel
    by_cases hlt : k < m
    · have i1 : (k : Int) < (m : Int) := by omega
      have hkl : k < hd.length := by rw [HH.out.2.1]; exact hlt
      obtain ⟨b1, o1, rfl, hly⟩ := HH.out.2.2.2.2.2.1.ly (by omega)
      obtain ⟨x, hx⟩ : ∃ x, hd[k] = x := ⟨_, rfl⟩
      have hok : M.okI x := hx ▸ HH.out.2.2.2.1 _ (List.getElem_mem hkl)
      have hp0 := (hly.below (stp HB HR.out.2).out).2 k hkl
      rw [hx] at hp0
      have HT := hid (show (hd.take (k + 1)).filter M.deadB = (hd.take k).filter M.deadB ++ (if M.deadB x then [x] else []) by
        rw [List.take_succ_eq_append_getElem hkl, List.filter_append, hx]
        congr 1
        by_cases h : M.deadB x = true
        · rw [if_pos h, List.filter_cons_of_pos h]; rfl
        · rw [if_neg h, List.filter_cons_of_neg h]; rfl)
      clear hx hly
      obtain ⟨c0, t, f, kk⟩ := x
      obtain ⟨q0, q1, q2, q3⟩ := hp0
      simp only at q0 q1 q2 q3
      have hbk := hid hok.1
      simp only at hbk
      have hpl : M.deadB (c0, t, f, kk) = (M.kind c0 == 2 || M.kind c0 == 3 || M.kind c0 == 5 || M.kind c0 == 7) := rfl
      have hA := At.new wr c0 t f kk
      have HO := hid (And.intro (HR.out.1.below (al wr (.cells #[.int .u16 c0, .int .u8 t, .int .u8 f, .int .u32 kk] 46))) ((stp (hid HR.out.2) (al wr (.cells #[.int .u16 c0, .int .u8 t, .int .u8 f, .int .u32 kk] 46))).out))
      obtain ⟨acc, hacc⟩ : ∃ acc, (hd.take k).filter M.deadB = acc := ⟨_, rfl⟩
      rw [hacc] at HO HT
      clear hok hacc HR
      have cs : (M.deadB (c0, t, f, kk) = true ∧ ((M.kind c0 == 2) = true ∨ (M.kind c0 == 2) = false ∧ ((M.kind c0 == 3) = true ∨ (M.kind c0 == 3) = false ∧ ((M.kind c0 == 5) = true ∨ (M.kind c0 == 5) = false ∧ (M.kind c0 == 7) = true)))) ∨ (M.deadB (c0, t, f, kk) = false ∧ (M.kind c0 == 2) = false ∧ (M.kind c0 == 3) = false ∧ (M.kind c0 == 5) = false ∧ (M.kind c0 == 7) = false) := by
        rw [hpl]
        cases (M.kind c0 == 2) <;> cases (M.kind c0 == 3) <;> cases (M.kind c0 == 5) <;> cases (M.kind c0 == 7) <;> simp
      clear hpl
      go_wp2_with fail
      refine (rkind_any _ hbk.out.1 hbk.out.2 _).mono ?_
      rintro e w3 ⟨rfl, hb⟩
      obtain ⟨a0, a3, a4, a5, _⟩ := (hA.below hb).cells
      replace HO := hid (And.intro (HO.out.1.below hb) ((stp (hid HO.out.2) hb).out))
      clear hb q0 q1 q2 q3 hA
      rcases cs with ⟨hp, cs⟩ | ⟨hp, d3, d4, d5, d6⟩
      · rw [hp, if_pos rfl] at HT
        clear hp
        rcases cs with d3 | ⟨d3, d4 | ⟨d4, d5 | ⟨d5, d6⟩⟩⟩
        all_goals
          go_wp2_with (at_builtin; refine wpList_append_row (by rfl) _ _ rfl w2.heap.size r 1 cap1 1 a1 (some ⟨w3.heap.size, 0, none⟩) acc [(c0, t, f, kk)] rfl (HO.out.1.below (al _ _)) rfl (lies_lit w3 [(c0, t, f, kk)] 1 rfl (by unfold maxLen; omega)) rfl (by omega) (stp (hid HO.out.2) (al _ _)).out.size ?_)
          intro a2 cap2 w4 hown hb
          have HQ := hid (show Own w4 w2.heap.size a2 (r + 1) cap2 ((hd.take (k + 1)).filter M.deadB) ∧ Below w2.heap.size w2 w4 from ⟨by rw [HT.out]; exact hown, (stp (hid HO.out.2) (al _ _)).out.trans hb⟩)
          clear hown hb HO HT
          go_wp2
          go_roundw
          case rel => exact ⟨k + 1, r + 1, cap2, a2, by omega, by omega, rfl, by go_num, HQ.out⟩
          case measure => simp [intOf]; omega
      · rw [hp, if_neg (by simp), List.append_nil] at HT
        clear hp
        go_wp2
        go_roundw
        case rel => exact ⟨k + 1, r, cap1, a1, by omega, by omega, rfl, by go_num, by rw [HT.out]; exact HO.out⟩
        case measure => simp [intOf]; omega
    · obtain rfl : k = m := by omega
      obtain ⟨acc, hacc⟩ : ∃ acc, (hd.take k).filter M.deadB = acc := ⟨_, rfl⟩
      rw [hacc] at HR
      have hlr := HR.out.1.len
      have HMo := hid (show M.right (l ++ (acc ++ [(6, 0, 0, 0)])) ∧ (∀ x ∈ l ++ (acc ++ [(6, 0, 0, 0)]), M.okI x) ∧ M.pruneL (l ++ (acc ++ [(6, 0, 0, 0)])) = M.pruneL l ∧ l ++ acc ++ [(6, 0, 0, 0)] = l ++ (acc ++ [(6, 0, 0, 0)]) ∧ (l ++ (acc ++ [(6, 0, 0, 0)])).length = n + r + 1 from by
        have h1 : M.right (l ++ (acc ++ [(6, 0, 0, 0)])) := M.app_right HH.out.2.2.2.2.2.2 HH.out.2.2.1 (fun x hx => by rw [← hacc] at hx; exact M.deadB_plain (List.mem_filter.1 hx).2) (by decide) (by rw [HH.out.1, hlr]; omega)
        have h2 : ∀ x ∈ l ++ (acc ++ [(6, 0, 0, 0)]), M.okI x := by
          intro x hx
          rcases List.mem_append.1 hx with h | h
          · exact HH.out.2.2.1 x h
          · rcases List.mem_append.1 h with h | h
            · rw [← hacc] at h
              exact HH.out.2.2.2.1 x (List.mem_of_mem_take (List.mem_filter.1 h).1)
            · rw [List.mem_singleton] at h; rw [h]; exact M.ret_ok
        exact ⟨h1, h2, M.app_prune HH.out.2.2.2.2.2.2 HH.out.2.2.1 _ h1 h2, List.append_assoc _ _ _, by rw [List.length_append, List.length_append, HH.out.1, hlr]; rfl⟩)
      clear hacc
      have HB2 := stp HB HR.out.2
      go_wp2_with (at_builtin; refine wpList_append_row (by rfl) _ _ rfl wr.heap.size 0 n 0 cap (some ⟨wr.heap.size, 0, none⟩) (some ⟨b, o, none⟩) [] l rfl (Own.new wr) rfl (HH.out.2.2.2.2.1.below (stp HB2 (al _ _)).out).lies HH.out.1 (by omega) (by simp) ?_)
      intro a2 cap2 w4 hown hb
      try simp only [Nat.zero_add, List.nil_append] at hown
      have hb2 : Below wr.heap.size wr w4 := (al wr _).trans hb
      have HO := hid (show Own w4 wr.heap.size a2 n cap2 l ∧ Below wr.heap.size wr w4 ∧ Lies w4 a1 acc from ⟨hown, hb2, HR.out.1.lies.below hb2⟩)
      clear hown hb hb2
      try simp only [Nat.zero_add]
      go_wp2_with (at_builtin; refine wpList_append_row (by rfl) _ _ rfl wr.heap.size n r cap2 cap1 a2 a1 l acc rfl HO.out.1 rfl HO.out.2.2 hlr (by omega) HO.out.2.1.size ?_)
      intro a3 cap3 w5 hown hb
      have HO3 := hid (show Own w5 wr.heap.size a3 (n + r) cap3 (l ++ acc) ∧ Below wr.heap.size wr w5 from ⟨hown, HO.out.2.1.trans hb⟩)
      clear hown hb HO
      go_wp2_with (at_builtin; refine wpList_append_row (by rfl) _ _ rfl wr.heap.size (n + r) 1 cap3 1 a3 (some ⟨w5.heap.size, 0, none⟩) (l ++ acc) [(6, 0, 0, 0)] rfl (HO3.out.1.below (al _ _)) rfl (lies_lit w5 [(6, 0, 0, 0)] 1 rfl (by unfold maxLen; omega)) rfl (by omega) (stp (hid HO3.out.2) (al _ _)).out.size ?_)
      intro a6 cap6 w6 hown hb
      have HO6 := hid (show Lies w6 a6 (l ++ (acc ++ [(6, 0, 0, 0)])) ∧ Below w.heap.size w w6 from ⟨by first | exact hown.lies | (rw [← HMo.out.2.2.2.1]; exact hown.lies), (stp HB2 ((stp (hid HO3.out.2) (al _ _)).out.trans hb)).out⟩)
      clear hown hb HO3 HB2 HR
      obtain ⟨b6, o6, rfl, hly6⟩ := HO6.out.1.ly0 HMo.out.1
      have HY := hid (And.intro hly6 HO6.out.2)
      have HP2 := hid (fun W h => HPr.out b6 o6 (n + r + 1) cap6 (l ++ (acc ++ [(6, 0, 0, 0)])) HMo.out.2.2.2.2 (by omega) HMo.out.2.1 HMo.out.1 W h)
      rw [HMo.out.2.2.1, HPm.out] at HP2
      clear hly6 HO6
      go_wp2_with fail
      refine (HP1.out _ (HH.out.2.2.2.2.1.below HY.out.2)).mono ?_
      rintro e w7 ⟨a7, c7, rfl, hx7, hb⟩
      have HY7 := hid (show Ly w7 b6 o6 (l ++ (acc ++ [(6, 0, 0, 0)])) ∧ Below w.heap.size w w7 ∧ Lies w7 a7 (M.pruneL l) from ⟨HY.out.1.below hb, (stp (hid HY.out.2) hb).out, hx7⟩)
      clear hx7 hb HY
      go_wp2_with fail
      refine (HP2.out _ HY7.out.1).mono ?_
      rintro e w8 ⟨a8, c8, rfl, hx8, hb⟩
      have HY8 := hid (show Below w.heap.size w w8 ∧ Lies w8 a7 (M.pruneL l) ∧ Lies w8 a8 (M.pruneL l) from ⟨(stp (hid HY7.out.2.1) hb).out, HY7.out.2.2.below hb, hx8⟩)
      clear hx8 hb HY7
      go_wp2_with fail
      refine (HSa.out _ _ _ _ _ HY8.out.2.1 HY8.out.2.2).mono ?_
      rintro e w9 ⟨rfl, q, rfl⟩
      go_wp2
      go_ret
      exact ⟨rfl, bdrew HY8.out.1 q⟩
theorem pdead_law (hAw : Aw9) (hP : PrOk) (a : Option Addr) (cap : Nat) (l : List M.I) (ok : ∀ i ∈ l, M.okI i) (c : Option Addr) (cap' : Nat) (hd : List M.I) (okh : ∀ i ∈ hd, M.okI i) (w : World) (hl : Lies w a l) (hh : Lies w c hd) :
    Calls Try.prog 6 #[.slice a l.length cap, .slice c hd.length cap'] w fun e w' => e = .returned (.bool true) ∧ Below w.heap.size w w' := by
  by_cases hn : 200 < l.length ∨ 100 < hd.length
  · exact pdead_big hAw a _ cap c _ cap' hn w
  · cases hb : M.rightB l with
    | false => exact pdead_bad hAw a _ cap c _ cap' l rfl (by omega) (by omega) ok w hl hb
    | true =>
      have hr := M.right_of.1 hb
      obtain ⟨b, o, rfl, hly⟩ := hl.ly0 hr
      exact pdead_good hAw hP b o l.length cap c hd.length cap' l hd rfl rfl (by omega) (by omega) ok okh hr w hly hh
end Go.Proofs.Ytahaooghebmhnaa.B
