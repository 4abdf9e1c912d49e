/-
  The walk of the statement PruneStraight, over what the program's own functions answer.
-/
import Derived.Test.YtahaooghebmhnaaPruLawE
namespace Go.Proofs.Ytahaooghebmhnaa.B
open Go.ChangeShapes Go.WideShapes Go.ChangeAt Go.RowKit
open Go.Sort hiding Below
set_option linter.unusedVariables false

set_option maxHeartbeats 1600000 in
set_option maxRecDepth 100000 in
theorem pstr_big (hAw : Aw9) (a : Option Addr) (n cap : Nat) (hn : 400 < n) (w : World) :
    Calls Try.prog 7 #[.slice a n cap] w fun e w' => e = .returned (.bool true) ∧ Below w.heap.size w w' := by
  have hd : decide (400 < (n : Int)) = true := decide_eq_true (by omega)
  have HB := hid (Below.refl w.heap.size w)
  have HAw := hid hAw
  clear hn hAw
  go_enter Try.func7, Try.ntmps7
  go_wp2_with fail
  refine (HAw.out _).mono ?_
  rintro e w1 ⟨rfl, hb⟩
  replace HB := stp HB hb
  clear hb
  go_wp2_with fail
  refine (HAw.out _).mono ?_
  rintro e w2 ⟨rfl, hb⟩
  replace HB := stp HB hb
  clear hb
  go_wp2
  go_ret
  exact ⟨rfl, HB.out⟩
set_option maxHeartbeats 1600000 in
set_option maxRecDepth 100000 in
theorem pstr_bad (hAw : Aw9) (a : Option Addr) (n cap : Nat) (l : List M.I) (hln : l.length = n) (hn : n ≤ 400) (ok : ∀ i ∈ l, M.okI i) (w : World) (hl : Lies w a l) (hbad : M.rightB l = false) :
    Calls Try.prog 7 #[.slice a n cap] w fun e w' => e = .returned (.bool true) ∧ Below w.heap.size w w' := by
  have hd : decide (400 < (n : Int)) = false := decide_eq_false (by omega)
  have HB := hid (Below.refl w.heap.size w)
  have HRt := hid (fun W (h : Lies W a l) => rright9 a n cap l hln (by omega) ok W h false hbad)
  have HL := hid hl
  have HAw := hid hAw
  clear hl ok hbad hln hAw
  go_enter Try.func7, Try.ntmps7
  go_wp2_with fail
  refine (HAw.out _).mono ?_
  rintro e w1 ⟨rfl, hb⟩
  replace HB := stp HB hb
  clear hb
  go_wp2_with fail
  refine (HRt.out _ (HL.out.below HB.out)).mono ?_
  rintro e w2 ⟨rfl, hb⟩
  replace HB := stp HB hb
  clear hb
  go_wp2_with fail
  refine (HAw.out _).mono ?_
  rintro e w3 ⟨rfl, hb⟩
  replace HB := stp HB hb
  clear hb
  go_wp2
  go_ret
  exact ⟨rfl, HB.out⟩

set_option maxHeartbeats 6400000 in
set_option maxRecDepth 1000000 in
theorem pstr_good (hAw : Aw9) (hPr : PrOk) (b o n cap : Nat) (l : List M.I) (hln : l.length = n) (hn : n ≤ 400) (ok : ∀ i ∈ l, M.okI i) (hr : M.right l) (w : World) (hl : Ly w b o l) :
    Calls Try.prog 7 #[.slice (some ⟨b, o, none⟩) n cap] w fun e w' => e = .returned (.bool true) ∧ Below w.heap.size w w' := by
  have hd : decide (400 < (n : Int)) = false := decide_eq_false (by omega)
  have HB := hid (Below.refl w.heap.size w)
  obtain ⟨hfix, hpr, hpo, hpl, _⟩ := M.prune_spec hr ok
  obtain ⟨p, hp⟩ : ∃ p, M.pruneL l = p := ⟨_, rfl⟩
  rw [hp] at hfix hpr hpo hpl
  obtain ⟨m, hm⟩ : ∃ m, p.length = m := ⟨_, rfl⟩
  have hmn : m ≤ n := by rw [← hm, ← hln]; exact hpl
  have hm0 : 0 < m := by rw [← hm]; exact ((M.right_iff p).1 hpr).1.1
  have i0 : (0 : Int) < (m : Int) := by omega
  have HP1 := hid (fun W (h : Ly W b o l) => hPr b o n cap l hln (by omega) ok hr W h)
  rw [hp, hm] at HP1
  have HRt := hid (fun W (h : Ly W b o l) => rright9 (some ⟨b, o, none⟩) n cap l hln (by omega) ok W h.lies true (M.right_of.2 hr))
  have HPp := hid (And.intro hpr (And.intro hm (And.intro hpo hfix)))
  have HL := hid hl
  have HAw := hid hAw
  clear hAw hPr hln ok hr hl hfix hpr hpo hpl hp hm
  go_enter Try.func7, Try.ntmps7
  go_wp2_with fail
  refine (HAw.out _).mono ?_
  rintro e w1 ⟨rfl, hb⟩
  replace HB := stp HB hb
  clear hb
  go_wp2_with fail
  refine (HRt.out _ (HL.out.below HB.out)).mono ?_
  rintro e w2 ⟨rfl, hb⟩
  replace HB := stp HB hb
  clear hb
  go_wp2_with fail
  refine (HP1.out _ (HL.out.below HB.out)).mono ?_
  rintro e w3 ⟨a3, c3, rfl, hx, hb⟩
  obtain ⟨b3, o3, rfl, hly⟩ := hx.ly0 HPp.out.1
  replace HB := stp HB hb
  have HX := hid hly
  clear hb hx hly
  go_wp2
  go_loopw [30] (fun iv wr => ∃ k : Nat, k ≤ m ∧ iv = .int .i64 k ∧ Hid (Below w3.heap.size w3 wr)) (fun iv _ => m - (intOf iv).toNat)
  case atStart => exact ⟨0, Nat.zero_le _, rfl, Below.refl _ _⟩
  case round =>
    obtain ⟨k, hk, rfl, HR⟩ := hrel
    by_cases hlt : k < m
    · have i1 : (k : Int) < (m : Int) := by omega
      have hkp : k < p.length := by rw [HPp.out.2.1]; exact hlt
      obtain ⟨x, hx⟩ : ∃ x, p[k] = x := ⟨_, rfl⟩
      have h0x : M.at0 p k = x := by rw [M.at0_eq hkp]; exact hx
      have hok : M.okI x := hx ▸ HPp.out.2.2.1 _ (List.getElem_mem hkp)
      obtain ⟨js, hjs⟩ : ∃ js, M.nxt k x = js := ⟨_, rfl⟩
      have HN := hid (fun W h => next_ly b3 o3 m c3 k p HPp.out.2.1 (by omega) hkp HPp.out.2.2.1 W h js js.length (by rw [hx]; exact hjs) rfl)
      have hlen : js.length ≤ 2 := by rw [← hjs]; exact M.nxt_len _ _
      have HJ := hid (show ∀ y ∈ js, k < y ∧ y < m ∧ (M.kind x.1 = 11 → M.isJa (M.at0 p y) = false ∧ y ≠ k + 1) ∧ (M.kind x.1 = 12 → M.isJa (M.at0 p y) = true → k + 256 < y + 1 + (M.at0 p y).2.2.2.toNat) from fun y hy => by
        rw [← hjs] at hy
        refine ⟨M.nxt_gt hy, by rw [← HPp.out.2.1]; exact M.beh_lt HPp.out.1 HPp.out.2.2.1 hkp (M.mem_beh.2 (by rw [h0x]; exact hy)), fun h => ?_, fun h hj => ?_⟩
        · have hja : M.isJa (M.at0 p k) = true := by rw [h0x]; exact M.isJa_iff.2 h
          have hy' : y = M.tgt p k := by
            rw [← h0x, M.tgt_nxt hja] at hy
            simpa using hy
          rw [hy']
          exact M.fix_ja HPp.out.1 HPp.out.2.2.1 HPp.out.2.2.2 hja
        · rw [← h0x] at hy h
          obtain ⟨_, bb, rfl⟩ := M.mem_sel.1 hy
          exact M.fix_jif HPp.out.1 HPp.out.2.2.1 HPp.out.2.2.2 hkp h bb hj)
      have hq := (HX.out.below HR.out).2 k hkp
      rw [hx] at hq
      clear hx h0x hjs
      obtain ⟨c, jt, jf, d⟩ := x
      obtain ⟨q0, q1, q2, q3⟩ := hq
      simp only at q0 q1 q2 q3 HJ
      have hbk := hid hok.1
      simp only at hbk
      clear hok
      obtain ⟨s, hs⟩ : ∃ s, js.length = s := ⟨_, rfl⟩
      rw [hs] at HN hlen
      have HS := hid hs
      clear hs
      have hA := At.new wr c jt jf d
      obtain ⟨h, hh⟩ : ∃ h, wr.heap.size = h := ⟨_, rfl⟩
      rw [hh] at hA
      have HR1 := hid (stp (hid HR.out) (al wr (.cells #[.int .u16 c, .int .u8 jt, .int .u8 jf, .int .u32 d] 46))).out
      clear HR
      go_wp2_with fail
      try rw [hh]
      clear hh q0 q1 q2 q3
      generalize wr.alloc (.cells #[.int .u16 c, .int .u8 jt, .int .u8 jf, .int .u32 d] 46) = wA at *
      refine (HN.out _ (HX.out.below HR1.out)).mono ?_
      rintro e w4 ⟨a4, rfl, hnx, _, hb⟩
      have HI := hid (show At w4 h c jt jf d ∧ Nx w4 a4 js ∧ Below w3.heap.size w3 w4 from ⟨hA.below hb, hnx, (stp (hid HR1.out) hb).out⟩)
      clear hb hnx hA HR1 HN
      go_wp2
      go_loopw [39] (fun iv wr => ∃ q : Nat, q ≤ s ∧ iv = .int .i64 q ∧ Hid (At wr h c jt jf d ∧ Nx wr a4 js ∧ Below w3.heap.size w3 wr)) (fun iv _ => s - (intOf iv).toNat)
      case atStart => exact ⟨0, Nat.zero_le _, rfl, HI.out⟩
      case round =>
        clear HI
        obtain ⟨q, hq, rfl, HQ⟩ := hrel
        by_cases hql : q < s
        · have i2 : (q : Int) < (s : Int) := by omega
          have hqj : q < js.length := by rw [HS.out]; exact hql
          obtain ⟨g', rfl⟩ : ∃ g', a4 = some ⟨g', 0, none⟩ := by
            rcases HQ.out.2.1 with h | ⟨g', e, _⟩
            · rw [h] at hqj; simp at hqj
            · exact ⟨g', e⟩
          have cy := nx_get HQ.out.2.1 q hqj
          obtain ⟨y, hy⟩ : ∃ y, js[q] = y := ⟨_, rfl⟩
          rw [hy] at cy
          obtain ⟨hgt, hym, hj1, hj2⟩ := HJ.out y (by rw [← hy]; exact List.getElem_mem hqj)
          have hyp : y < p.length := by rw [HPp.out.2.1]; exact hym
          obtain ⟨z, hz⟩ : ∃ z, p[y] = z := ⟨_, rfl⟩
          have h0z : M.at0 p y = z := by rw [M.at0_eq hyp]; exact hz
          rw [h0z] at hj1 hj2
          have HLz := hid (fun W (hb : Below w3.heap.size w3 W) => (by rw [← hz]; exact (HX.out.below hb).2 y hyp : LiesAt W b3 o3 y z))
          have hokz : M.okI z := hz ▸ HPp.out.2.2.1 _ (List.getElem_mem hyp)
          have i3 : (y : Int) < (m : Int) := by omega
          have d1 : decide (y ≤ k) = false := decide_eq_false (by omega)
          have d2 : decide (m ≤ y) = false := decide_eq_false (by omega)
          clear hy hz h0z hyp hqj
          obtain ⟨cz, tz, fz, kz⟩ := z
          obtain ⟨z0, _, _, z3⟩ := hokz
          simp only at z0 z3
          obtain ⟨kz, rfl⟩ : ∃ k' : Nat, kz = k' := ⟨kz.toNat, by omega⟩
          simp only [Int.toNat_natCast] at hj2
          obtain ⟨p0, p1, p2, p3⟩ := HLz.out _ HQ.out.2.2
          simp only at p0 p1 p2 p3
          have hbz := hid z0
          clear z0
          have HJ1 := hid hj1
          have HJ2 := hid hj2
          clear hj1 hj2
          go_wp2_with fail
          refine (rkind_any _ hbz.out.1 hbz.out.2 _).mono ?_
          rintro e w5 ⟨rfl, hb⟩
          have HQ5 := hid (show At w5 h c jt jf d ∧ Nx w5 (some ⟨g', 0, none⟩) js ∧ Below w3.heap.size w3 w5 from ⟨HQ.out.1.below hb, HQ.out.2.1.below hb, (stp (hid HQ.out.2.2) hb).out⟩)
          obtain ⟨a0, a1, a2, a3', _⟩ := HQ5.out.1.cells
          clear hb HQ p0 p1 p2 p3 cy
          go_wp2_with fail
          refine (rkind_any _ hbk.out.1 hbk.out.2 _).mono ?_
          rintro e w6 ⟨rfl, hb⟩
          have HQ6 := hid (show At w6 h c jt jf d ∧ Nx w6 (some ⟨g', 0, none⟩) js ∧ Below w3.heap.size w3 w6 from ⟨HQ5.out.1.below hb, HQ5.out.2.1.below hb, (stp (hid HQ5.out.2.2) hb).out⟩)
          obtain ⟨p0, p1, p2, p3⟩ := HLz.out _ HQ6.out.2.2
          simp only at p0 p1 p2 p3
          clear hb HQ5 a0 a1 a2 a3'
          by_cases h11 : M.kind c = 11
          · have e1 : (M.kind c == 11) = true := by simpa using h11
            obtain ⟨hz1, hz2⟩ := HJ1.out h11
            have e2 : (M.kind cz == 11) = false := by rw [beq_eq_false_iff_ne]; exact M.isJa_not.1 hz1
            have e3 : ((y : Int) == (k : Int) + 1) = false := by rw [beq_eq_false_iff_ne]; omega
            clear h11 hz1 hz2
            go_wp2
            go_roundw
            case rel => exact ⟨q + 1, by omega, by go_num, HQ6.out⟩
            case measure => simp [intOf]; omega
          · have e1 : (M.kind c == 11) = false := by simpa using h11
            by_cases h12 : M.kind c = 12
            · have e2 : (M.kind c == 12) = true := by simpa using h12
              by_cases hzj : M.kind cz = 11
              · have e3 : (M.kind cz == 11) = true := by simpa using hzj
                have hfar := HJ2.out h12 (M.isJa_iff.2 hzj)
                have e4 : decide ((y : Int) - (k : Int) + (kz : Int) ≤ 255) = false := decide_eq_false (by omega)
                clear h11 h12 hzj hfar
                go_wp2
                go_roundw
                case rel => exact ⟨q + 1, by omega, by go_num, HQ6.out⟩
                case measure => simp [intOf]; omega
              · have e3 : (M.kind cz == 11) = false := by simpa using hzj
                clear h11 h12 hzj
                go_wp2
                go_roundw
                case rel => exact ⟨q + 1, by omega, by go_num, HQ6.out⟩
                case measure => simp [intOf]; omega
            · have e2 : (M.kind c == 12) = false := by simpa using h12
              clear h11 h12
              go_wp2
              go_roundw
              case rel => exact ⟨q + 1, by omega, by go_num, HQ6.out⟩
              case measure => simp [intOf]; omega
        · obtain rfl : q = s := by omega
          go_wp2
          go_roundw
          case rel => exact ⟨k + 1, by omega, by go_num, HQ.out.2.2⟩
          case measure => simp [intOf]; omega
    · obtain rfl : k = m := by omega
      have HBw := hid (HB.out.trans (HR.out.mono HB.out.size))
      go_wp2
      go_ret
      exact ⟨rfl, HBw.out⟩
theorem pstr_law (hAw : Aw9) (hP : PrOk) (a : Option Addr) (cap : Nat) (l : List M.I) (ok : ∀ i ∈ l, M.okI i) (w : World) (hl : Lies w a l) :
    Calls Try.prog 7 #[.slice a l.length cap] w fun e w' => e = .returned (.bool true) ∧ Below w.heap.size w w' := by
  by_cases hn : l.length ≤ 400
  · cases hb : M.rightB l with
    | false => exact pstr_bad hAw a _ cap l rfl hn ok w hl hb
    | true =>
      have hr := M.right_of.1 hb
      obtain ⟨b, o, rfl, hly⟩ := hl.ly0 hr
      exact pstr_good hAw hP b o l.length cap l rfl hn ok hr w hly
  · exact pstr_big hAw a _ cap (by omega) w
end Go.Proofs.Ytahaooghebmhnaa.B
