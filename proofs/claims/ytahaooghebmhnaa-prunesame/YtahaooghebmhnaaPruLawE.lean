/-
  The walk of the statement PruneSteps, over what the program's own functions answer.
-/
import Derived.Test.YtahaooghebmhnaaPruLawD
namespace Go.Proofs.Ytahaooghebmhnaa.M
theorem ev_append (l : List I) (A B : List Nat) : ev l (A ++ B) = ev l A ++ ev l B := by
  unfold ev; rw [List.filter_append, List.map_append]
theorem ev_len (l : List I) (T : List Nat) : (ev l T).length ≤ T.length := by
  unfold ev; rw [List.length_map]; exact List.length_filter_le _ _
/-- the first k of a way, and the next one -/
theorem ev_take {l : List I} {T : List Nat} {k : Nat} (h : k < T.length) : ev l (T.take (k + 1)) = ev l (T.take k) ++ (if isJa (at0 l T[k]) = true then [] else [((at0 l T[k]).1, (0 : Int), (0 : Int), (at0 l T[k]).2.2.2)]) := by
  rw [List.take_succ_eq_append_getElem h, ev_append]
  congr 1
  cases e : isJa (at0 l T[k]) with
  | true => rw [ev_ja e, if_pos rfl]; rfl
  | false => rw [ev_not e, if_neg (by simp)]; rfl
end Go.Proofs.Ytahaooghebmhnaa.M
namespace Go.Proofs.Ytahaooghebmhnaa.B
open Go.ChangeShapes Go.WideShapes Go.ChangeAt Go.RowKit
open Go.Sort hiding Below
set_option linter.unusedVariables false

set_option maxHeartbeats 1600000 in
set_option maxRecDepth 100000 in
theorem psteps_big (hAw : Aw9) (a : Option Addr) (n cap : Nat) (r : List Int) (hn : 400 < n) (w : World) :
    Calls Try.prog 5 #[.slice a n cap, .agg (RB.enc r)] w fun e w' => e = .returned (.bool true) ∧ Below w.heap.size w w' := by
  have hd : decide (400 < (n : Int)) = true := decide_eq_true (by omega)
  have hX := RB.lcf_eq
  have HB := hid (al w (.cells (RB.enc r) 36))
  have HAw := hid hAw
  clear hn hAw
  go_enter Try.func5, Try.ntmps5
  go_wp2_with fail
  refine (HAw.out _).mono ?_
  rintro e w1 ⟨rfl, hb⟩
  replace HB := stp HB hb
  clear hb
  go_wp2_with fail
  refine (HAw.out _).mono ?_
  rintro e w2 ⟨rfl, hb⟩
  replace HB := stp HB hb
  clear hb
  go_wp2
  go_ret
  exact ⟨rfl, HB.out⟩
set_option maxHeartbeats 1600000 in
set_option maxRecDepth 100000 in
theorem psteps_bad (hAw : Aw9) (a : Option Addr) (n cap : Nat) (r : List Int) (l : List M.I) (hln : l.length = n) (hn : n ≤ 400) (ok : ∀ i ∈ l, M.okI i) (w : World) (hl : Lies w a l) (hbad : M.rightB l = false) :
    Calls Try.prog 5 #[.slice a n cap, .agg (RB.enc r)] w fun e w' => e = .returned (.bool true) ∧ Below w.heap.size w w' := by
  have hd : decide (400 < (n : Int)) = false := decide_eq_false (by omega)
  have hX := RB.lcf_eq
  have HB := hid (al w (.cells (RB.enc r) 36))
  have HRt := hid (fun W (h : Lies W a l) => rright9 a n cap l hln (by omega) ok W h false hbad)
  have HL := hid hl
  have HAw := hid hAw
  clear hl ok hbad hln hAw
  go_enter Try.func5, Try.ntmps5
  go_wp2_with fail
  refine (HAw.out _).mono ?_
  rintro e w1 ⟨rfl, hb⟩
  replace HB := stp HB hb
  clear hb
  go_wp2_with fail
  refine (HRt.out _ (HL.out.below HB.out)).mono ?_
  rintro e w2 ⟨rfl, hb⟩
  replace HB := stp HB hb
  clear hb
  go_wp2_with fail
  refine (HAw.out _).mono ?_
  rintro e w3 ⟨rfl, hb⟩
  replace HB := stp HB hb
  clear hb
  go_wp2
  go_ret
  exact ⟨rfl, HB.out⟩

set_option maxHeartbeats 6400000 in
set_option maxRecDepth 1000000 in
theorem psteps_good (hAw : Aw9) (hPr : PrOk) (b o n cap : Nat) (r : List Int) (hkr : R.okR r) (l : List M.I) (hln : l.length = n) (hn : n ≤ 400) (ok : ∀ i ∈ l, M.okI i) (hr : M.right l) (w : World) (hl : Ly w b o l) :
    Calls Try.prog 5 #[.slice (some ⟨b, o, none⟩) n cap, .agg (RB.enc r)] w fun e w' => e = .returned (.bool true) ∧ Below w.heap.size w w' := by
  have hd : decide (400 < (n : Int)) = false := decide_eq_false (by omega)
  have hX := RB.lcf_eq
  have HB := hid (al w (.cells (RB.enc r) 36))
  have HL := hid (hl.below HB.out)
  have hRc := RB.Rec.new w r hkr.1
  have hsz16 := RB.enc_size hkr.1
  obtain ⟨hfix, hpr, hpo, hpl, hrun⟩ := M.prune_spec hr ok
  obtain ⟨_, hev, hle⟩ := hrun r
  obtain ⟨p, hp⟩ : ∃ p, M.pruneL l = p := ⟨_, rfl⟩
  rw [hp] at hpr hpo hpl hev hle
  obtain ⟨m, hm⟩ : ∃ m, p.length = m := ⟨_, rfl⟩
  have hmn : m ≤ n := by rw [← hm, ← hln]; exact hpl
  have HP1 := hid (fun W (h : Ly W b o l) => hPr b o n cap l hln (by omega) ok hr W h)
  rw [hp, hm] at HP1
  have HRt := hid (fun W (h : Ly W b o l) => rright9 (some ⟨b, o, none⟩) n cap l hln (by omega) ok W h.lies true (M.right_of.2 hr))
  have HTl := hid (fun W (h : Ly W b o l) => mtrace_any b o n cap l r hln (by omega) ok hkr W h hr)
  have HTp := hid (fun b o c W (h : Ly W b o p) => mtrace_any b o m c p r hm (by omega) hpo hkr W h hpr)
  have htl := M.run_ends hr ok r
  have hup := M.run_ends hpr hpo r
  obtain ⟨T, hT⟩ : ∃ T, (M.run l r).2 = T := ⟨_, rfl⟩
  obtain ⟨U, hU⟩ : ∃ U, (M.run p r).2 = U := ⟨_, rfl⟩
  rw [hT] at HTl hev hle htl
  rw [hU] at HTp hev hle hup
  obtain ⟨s, hs⟩ : ∃ s, T.length = s := ⟨_, rfl⟩
  obtain ⟨u, hu⟩ : ∃ u, U.length = u := ⟨_, rfl⟩
  rw [hs] at HTl hle
  rw [hu] at HTp hle
  have hsn : s ≤ n := by rw [← hs, ← hln]; exact htl.2.2.2.2
  have hum : u ≤ m := by rw [← hu, ← hm]; exact hup.2.2.2.2
  have hgt : decide (s < u) = false := decide_eq_false (by omega)
  have HPp := hid (And.intro hpr (And.intro hm (And.intro hpo (And.intro hu (fun q hq => hup.2.2.2.1 q hq)))))
  have HPl := hid (And.intro hln (And.intro ok (And.intro hs (And.intro hev (fun q hq => htl.2.2.2.1 q hq)))))
  have HAw := hid hAw
  clear hAw hPr hln ok hr hl hfix hpr hpo hpl hrun hp hm hev hle hT hU hs hu htl hup
  go_enter Try.func5, Try.ntmps5
  go_wp2_with fail
  refine (HAw.out _).mono ?_
  rintro e w1 ⟨rfl, hb⟩
  replace HB := stp HB hb
  replace HL := hid (HL.out.below hb)
  replace hRc := hRc.below hb hRc.lt
  clear hb
  go_wp2_with fail
  refine (HRt.out _ HL.out).mono ?_
  rintro e w2 ⟨rfl, hb⟩
  replace HB := stp HB hb
  replace HL := hid (HL.out.below hb)
  replace hRc := hRc.below hb hRc.lt
  clear hb
  go_wp2_with fail
  refine (HP1.out _ HL.out).mono ?_
  rintro e w3 ⟨a3, c3, rfl, hx, hb⟩
  obtain ⟨b3, o3, rfl, hly⟩ := hx.ly0 HPp.out.1
  replace HB := stp HB hb
  replace HL := hid (HL.out.below hb)
  replace hRc := hRc.below hb hRc.lt
  have HX := hid hly
  have hl16 := hRc.load
  clear hb hx hly
  go_wp2_with fail
  refine (HTl.out _ HL.out).mono ?_
  rintro e w4 ⟨g4, c4, rfl, hx4, hb⟩
  replace HB := stp HB hb
  replace HL := hid (HL.out.below hb)
  replace HX := hid (HX.out.below hb)
  replace hRc := hRc.below hb hRc.lt
  have HX4 := hid hx4
  clear hb hl16 hx4
  have hl16 := hRc.load
  go_wp2_with fail
  refine (HTp.out _ _ _ _ HX.out).mono ?_
  rintro e w5 ⟨g5, c5, rfl, hx5, hb⟩
  replace HB := stp HB hb
  replace HL := hid (HL.out.below hb)
  replace HX := hid (HX.out.below hb)
  replace HX4 := hid (HX4.out.below hb)
  have HX5 := hid hx5
  clear hb hl16 hRc hx5 hX hsz16
  go_wp2
  obtain ⟨W1, hW1⟩ : ∃ W, W = w5 := ⟨_, rfl⟩
  have HI1 := hid (show Own w5 w5.heap.size none 0 0 (M.ev l (T.take 0)) from by
    have e : M.ev l (T.take 0) = [] := by rw [List.take_zero]; rfl
    rw [e]; exact Own.nil _ _)
  clear hW1 W1
  go_loopw [11, 68] (fun v i wr => ∃ (k m' cc : Nat) (a : Option Addr), k ≤ s ∧ m' ≤ k ∧ v = .slice a m' cc ∧ i = .int .i64 k ∧ Hid (Own wr w5.heap.size a m' cc (M.ev l (T.take k)) ∧ Below w5.heap.size w5 wr)) (fun _ i _ => s - (intOf i).toNat)
  case atStart => exact ⟨0, 0, 0, none, Nat.zero_le _, Nat.zero_le _, rfl, rfl, HI1.out, Below.refl _ _⟩
  case round =>
    clear HI1
    obtain ⟨k, m', cc, a, hk, hmk, rfl, rfl, HR⟩ := hrel
    by_cases hlt : k < s
    · have i1 : (k : Int) < (s : Int) := by omega
      have hkT : k < T.length := by rw [HPl.out.2.2.1]; exact hlt
      have ct := nx_get (HX4.out.below HR.out.2) k hkT
      obtain ⟨q, hq⟩ : ∃ q, T[k] = q := ⟨_, rfl⟩
      rw [hq] at ct
      have hqn : q < l.length := HPl.out.2.2.2.2 q (by rw [← hq]; exact List.getElem_mem hkT)
      have hqN : q < n := by rw [← HPl.out.1]; exact hqn
      have i2 : (q : Int) < (n : Int) := by omega
      obtain ⟨x, hx⟩ : ∃ x, l[q] = x := ⟨_, rfl⟩
      have h0x : M.at0 l q = x := by rw [M.at0_eq hqn]; exact hx
      have hok : M.okI x := hx ▸ HPl.out.2.1 _ (List.getElem_mem hqn)
      have HQ := hid (fun W (hb : Below w5.heap.size w5 W) => (by rw [← hx]; exact (HL.out.below hb).2 q hqn : LiesAt W b o q x))
      have HE := hid (show M.ev l (T.take (k + 1)) = M.ev l (T.take k) ++ (if M.isJa x = true then [] else [(x.1, (0 : Int), (0 : Int), x.2.2.2)]) from by
        have := M.ev_take (l := l) hkT
        rw [hq, h0x] at this
        exact this)
      clear hx h0x hq hkT hqn
      obtain ⟨acc, hacc⟩ : ∃ acc, M.ev l (T.take k) = acc := ⟨_, rfl⟩
      rw [hacc] at HE HR
      clear hacc
      obtain ⟨c, jt, jf, d⟩ := x
      obtain ⟨q0, q1, q2, q3⟩ := HQ.out _ HR.out.2
      simp only at q0 q1 q2 q3
      have hbk := hid hok.1
      simp only at hbk
      clear hok
      go_wp2_with fail
      refine (rkind_any _ hbk.out.1 hbk.out.2 _).mono ?_
      rintro e wk ⟨rfl, hb⟩
      have HK := hid (show Own wk w5.heap.size a m' cc acc ∧ Below w5.heap.size w5 wk from ⟨HR.out.1.below hb, (stp (hid HR.out.2) hb).out⟩)
      clear hb HR q0 q1 q2 q3
      by_cases h11 : M.kind c = 11
      · have d1 : (M.kind c != 11) = false := by simpa using h11
        have HE2 := hid (show M.ev l (T.take (k + 1)) = acc from by rw [HE.out, if_pos (M.isJa_iff.2 h11), List.append_nil])
        clear h11 HE
        go_wp2
        go_roundw
        case rel => exact ⟨k + 1, m', cc, a, by omega, by omega, rfl, by go_num, by rw [HE2.out]; exact HK.out⟩
        case measure => simp [intOf]; omega
      · have d1 : (M.kind c != 11) = true := by simpa using h11
        have HE2 := hid (show M.ev l (T.take (k + 1)) = acc ++ [(c, (0 : Int), (0 : Int), d)] from by rw [HE.out, if_neg (by rw [M.isJa_iff]; exact h11)])
        obtain ⟨q0, q1, q2, q3⟩ := HQ.out _ HK.out.2
        simp only at q0 q1 q2 q3
        clear h11 HE
        obtain ⟨h, hh⟩ : ∃ h, wk.heap.size = h := ⟨_, rfl⟩
        have hbh : w5.heap.size ≤ h := by rw [← hh]; exact HK.out.2.size
        have hA := At.new wk c jt jf d
        rw [hh] at hA
        obtain ⟨wA, hwA⟩ : ∃ wA, wk.alloc (.cells #[.int .u16 c, .int .u8 jt, .int .u8 jf, .int .u32 d] 46) = wA := ⟨_, rfl⟩
        rw [hwA] at hA
        have HOff := hid (show ∀ A, a = some A → A.block ≠ h from fun A hA => by
          obtain ⟨a', c', e, hab⟩ := own_slice HK.out.1.own
          injection e with e1 e2 e3
          subst e1
          have := (hab A hA).2
          omega)
        have HV := hid (show Own wA w5.heap.size a m' cc acc ∧ Below w5.heap.size w5 wA from by rw [← hwA]; exact ⟨HK.out.1.below (al _ _), (stp (hid HK.out.2) (al _ _)).out⟩)
        obtain ⟨wB, hwB⟩ : ∃ wB, wA.setCell ⟨h, 1, none⟩ (.int .u8 0) = wB := ⟨_, rfl⟩
        obtain ⟨wC, hwC⟩ : ∃ wC, wB.setCell ⟨h, 2, none⟩ (.int .u8 0) = wC := ⟨_, rfl⟩
        have hAB : At wB h c 0 jf d := by rw [← hwB]; exact At.set1 _ hA
        have hAC : At wC h c 0 0 d := by rw [← hwC]; exact At.set2 _ hAB
        replace HV := hid (show Own wC w5.heap.size a m' cc acc ∧ Below w5.heap.size w5 wC from by
          rw [← hwC, ← hwB]
          exact ⟨⟨own_off (own_off HV.out.1.own HOff.out) HOff.out, HV.out.1.len⟩, (HV.out.2.setCell (by simp; omega) _).setCell (by simp; omega) _⟩)
        obtain ⟨a0, a1, a2, a3', af⟩ := hA.cells
        obtain ⟨e0, e1, e2, e3, ef⟩ := hAB.cells
        obtain ⟨g0, g1, g2, g3, _⟩ := hAC.cells
        have f1 := af 1
        have f2 := ef 2
        clear hA hAB hAC HK
        go_wp2_with (at_builtin; refine wpList_append_row (by rfl) _ _ rfl w5.heap.size m' 1 cc 1 a (some ⟨wC.heap.size, 0, none⟩) acc [(c, (0 : Int), (0 : Int), d)] rfl (HV.out.1.below (al _ _)) rfl (lies_lit wC [(c, (0 : Int), (0 : Int), d)] 1 rfl (by unfold maxLen; omega)) rfl (by omega) (stp (hid HV.out.2) (al _ _)).out.size ?_)
        intro a9 cap9 w9 hown hb
        have HZ := hid (show Own w9 w5.heap.size a9 (m' + 1) cap9 (M.ev l (T.take (k + 1))) ∧ Below w5.heap.size w5 w9 from ⟨by rw [HE2.out]; exact hown, (stp (hid HV.out.2) (al _ _)).out.trans hb⟩)
        clear hown hb HV
        go_wp2
        go_roundw
        case rel => exact ⟨k + 1, m' + 1, cap9, a9, by omega, by omega, rfl, by go_num, HZ.out⟩
        case measure => simp [intOf]; omega
    · obtain rfl : k = s := by omega
      obtain ⟨wx, hwx⟩ : ∃ wx, wx = wr := ⟨_, rfl⟩
      subst hwx
      obtain ⟨a1, m1, cc1, rfl, rfl, rfl⟩ : ∃ a1 m1 cc1, a1 = a ∧ m1 = m' ∧ cc1 = cc := ⟨_, _, _, rfl, rfl, rfl⟩
      have hm1 : m1 ≤ k := hmk
      have HF1 := hid (show Lies wx a1 (M.ev l T) ∧ (M.ev l T).length = m1 ∧ True from by
        have h1 : M.ev l (T.take k) = M.ev l T := by rw [← HPl.out.2.2.1, List.take_length]
        have h2 := HR.out.1.lies
        have h3 := HR.out.1.len
        rw [h1] at h2 h3
        exact ⟨h2, h3, trivial⟩)
      have HB1 := hid (show Below w.heap.size w wx from HB.out.trans (HR.out.2.mono HB.out.size))
      have HX5x := hid (HX5.out.below HR.out.2)
      have HXx := hid (HX.out.below HR.out.2)
      clear HR HX5 HX HB HL HX4
      go_wp2
      obtain ⟨W2, hW2⟩ : ∃ W, W = wx := ⟨_, rfl⟩
      have HI2 := hid (show Own wx wx.heap.size none 0 0 (M.ev p (U.take 0)) from by
        have e : M.ev p (U.take 0) = [] := by rw [List.take_zero]; rfl
        rw [e]; exact Own.nil _ _)
      clear hW2 W2
      go_loopw [12, 92] (fun v i wr => ∃ (k m' cc : Nat) (a : Option Addr), k ≤ u ∧ m' ≤ k ∧ v = .slice a m' cc ∧ i = .int .i64 k ∧ Hid (Own wr wx.heap.size a m' cc (M.ev p (U.take k)) ∧ Below wx.heap.size wx wr)) (fun _ i _ => u - (intOf i).toNat)
      case atStart => exact ⟨0, 0, 0, none, Nat.zero_le _, Nat.zero_le _, rfl, rfl, HI2.out, Below.refl _ _⟩
      case round =>
        clear HI2
        obtain ⟨k, m', cc, a, hk, hmk, rfl, rfl, HR⟩ := hrel
        by_cases hlt : k < u
        · have i1 : (k : Int) < (u : Int) := by omega
          have hkT : k < U.length := by rw [HPp.out.2.2.2.1]; exact hlt
          have ct := nx_get (HX5x.out.below HR.out.2) k hkT
          obtain ⟨q, hq⟩ : ∃ q, U[k] = q := ⟨_, rfl⟩
          rw [hq] at ct
          have hqn : q < p.length := HPp.out.2.2.2.2 q (by rw [← hq]; exact List.getElem_mem hkT)
          have hqN : q < m := by rw [← HPp.out.2.1]; exact hqn
          have i2 : (q : Int) < (m : Int) := by omega
          obtain ⟨x, hx⟩ : ∃ x, p[q] = x := ⟨_, rfl⟩
          have h0x : M.at0 p q = x := by rw [M.at0_eq hqn]; exact hx
          have hok : M.okI x := hx ▸ HPp.out.2.2.1 _ (List.getElem_mem hqn)
          have HQ := hid (fun W (hb : Below wx.heap.size wx W) => (by rw [← hx]; exact (HXx.out.below hb).2 q hqn : LiesAt W b3 o3 q x))
          have HE := hid (show M.ev p (U.take (k + 1)) = M.ev p (U.take k) ++ (if M.isJa x = true then [] else [(x.1, (0 : Int), (0 : Int), x.2.2.2)]) from by
            have := M.ev_take (l := p) hkT
            rw [hq, h0x] at this
            exact this)
          clear hx h0x hq hkT hqn
          obtain ⟨acc, hacc⟩ : ∃ acc, M.ev p (U.take k) = acc := ⟨_, rfl⟩
          rw [hacc] at HE HR
          clear hacc
          obtain ⟨c, jt, jf, d⟩ := x
          obtain ⟨q0, q1, q2, q3⟩ := HQ.out _ HR.out.2
          simp only at q0 q1 q2 q3
          have hbk := hid hok.1
          simp only at hbk
          clear hok
          go_wp2_with fail
          refine (rkind_any _ hbk.out.1 hbk.out.2 _).mono ?_
          rintro e wk ⟨rfl, hb⟩
          have HK := hid (show Own wk wx.heap.size a m' cc acc ∧ Below wx.heap.size wx wk from ⟨HR.out.1.below hb, (stp (hid HR.out.2) hb).out⟩)
          clear hb HR q0 q1 q2 q3
          by_cases h11 : M.kind c = 11
          · have d1 : (M.kind c != 11) = false := by simpa using h11
            have HE2 := hid (show M.ev p (U.take (k + 1)) = acc from by rw [HE.out, if_pos (M.isJa_iff.2 h11), List.append_nil])
            clear h11 HE
            go_wp2
            go_roundw
            case rel => exact ⟨k + 1, m', cc, a, by omega, by omega, rfl, by go_num, by rw [HE2.out]; exact HK.out⟩
            case measure => simp [intOf]; omega
          · have d1 : (M.kind c != 11) = true := by simpa using h11
            have HE2 := hid (show M.ev p (U.take (k + 1)) = acc ++ [(c, (0 : Int), (0 : Int), d)] from by rw [HE.out, if_neg (by rw [M.isJa_iff]; exact h11)])
            obtain ⟨q0, q1, q2, q3⟩ := HQ.out _ HK.out.2
            simp only at q0 q1 q2 q3
            clear h11 HE
            obtain ⟨h, hh⟩ : ∃ h, wk.heap.size = h := ⟨_, rfl⟩
            have hbh : wx.heap.size ≤ h := by rw [← hh]; exact HK.out.2.size
            have hA := At.new wk c jt jf d
            rw [hh] at hA
            obtain ⟨wA, hwA⟩ : ∃ wA, wk.alloc (.cells #[.int .u16 c, .int .u8 jt, .int .u8 jf, .int .u32 d] 46) = wA := ⟨_, rfl⟩
            rw [hwA] at hA
            have HOff := hid (show ∀ A, a = some A → A.block ≠ h from fun A hA => by
              obtain ⟨a', c', e, hab⟩ := own_slice HK.out.1.own
              injection e with e1 e2 e3
              subst e1
              have := (hab A hA).2
              omega)
            have HV := hid (show Own wA wx.heap.size a m' cc acc ∧ Below wx.heap.size wx wA from by rw [← hwA]; exact ⟨HK.out.1.below (al _ _), (stp (hid HK.out.2) (al _ _)).out⟩)
            obtain ⟨wB, hwB⟩ : ∃ wB, wA.setCell ⟨h, 1, none⟩ (.int .u8 0) = wB := ⟨_, rfl⟩
            obtain ⟨wC, hwC⟩ : ∃ wC, wB.setCell ⟨h, 2, none⟩ (.int .u8 0) = wC := ⟨_, rfl⟩
            have hAB : At wB h c 0 jf d := by rw [← hwB]; exact At.set1 _ hA
            have hAC : At wC h c 0 0 d := by rw [← hwC]; exact At.set2 _ hAB
            replace HV := hid (show Own wC wx.heap.size a m' cc acc ∧ Below wx.heap.size wx wC from by
              rw [← hwC, ← hwB]
              exact ⟨⟨own_off (own_off HV.out.1.own HOff.out) HOff.out, HV.out.1.len⟩, (HV.out.2.setCell (by simp; omega) _).setCell (by simp; omega) _⟩)
            obtain ⟨a0, a1, a2, a3', af⟩ := hA.cells
            obtain ⟨e0, e1, e2, e3, ef⟩ := hAB.cells
            obtain ⟨g0, g1, g2, g3, _⟩ := hAC.cells
            have f1 := af 1
            have f2 := ef 2
            clear hA hAB hAC HK
            go_wp2_with (at_builtin; refine wpList_append_row (by rfl) _ _ rfl wx.heap.size m' 1 cc 1 a (some ⟨wC.heap.size, 0, none⟩) acc [(c, (0 : Int), (0 : Int), d)] rfl (HV.out.1.below (al _ _)) rfl (lies_lit wC [(c, (0 : Int), (0 : Int), d)] 1 rfl (by unfold maxLen; omega)) rfl (by omega) (stp (hid HV.out.2) (al _ _)).out.size ?_)
            intro a9 cap9 w9 hown hb
            have HZ := hid (show Own w9 wx.heap.size a9 (m' + 1) cap9 (M.ev p (U.take (k + 1))) ∧ Below wx.heap.size wx w9 from ⟨by rw [HE2.out]; exact hown, (stp (hid HV.out.2) (al _ _)).out.trans hb⟩)
            clear hown hb HV
            go_wp2
            go_roundw
            case rel => exact ⟨k + 1, m' + 1, cap9, a9, by omega, by omega, rfl, by go_num, HZ.out⟩
            case measure => simp [intOf]; omega
        · obtain rfl : k = u := by omega
          have HF := hid (show Lies wr a (M.ev l T) ∧ (M.ev l T).length = m' from by
            have h1 : M.ev p (U.take k) = M.ev l T := by rw [← HPp.out.2.2.2.1, List.take_length]; exact HPl.out.2.2.2.1
            have h2 := HR.out.1.lies
            have h3 := HR.out.1.len
            rw [h1] at h2 h3
            exact ⟨h2, h3⟩)
          have HSa := hid (rsame_len a1 a (M.ev l T) (M.ev l T) m1 m' cc1 cc wr HF1.out.2.1 HF.out.2 (HF1.out.1.below HR.out.2) HF.out.1 (by omega) (by omega) true (decide_eq_true rfl))
          have HBw := hid (HB1.out.trans (HR.out.2.mono HB1.out.size))
          go_wp2_with fail
          refine HSa.out.mono ?_
          rintro e w9 ⟨rfl, q, rfl⟩
          go_wp2
          go_ret
          exact ⟨rfl, bdrew HBw.out q⟩
theorem psteps_law (hAw : Aw9) (hP : PrOk) (a : Option Addr) (cap : Nat) (l : List M.I) (ok : ∀ i ∈ l, M.okI i) (r : List Int) (hk : R.okR r) (w : World) (hl : Lies w a l) :
    Calls Try.prog 5 #[.slice a l.length cap, .agg (RB.enc r)] w fun e w' => e = .returned (.bool true) ∧ Below w.heap.size w w' := by
  by_cases hn : l.length ≤ 400
  · cases hb : M.rightB l with
    | false => exact psteps_bad hAw a _ cap r l rfl hn ok w hl hb
    | true =>
      have hr := M.right_of.1 hb
      obtain ⟨b, o, rfl, hly⟩ := hl.ly0 hr
      exact psteps_good hAw hP b o l.length cap r hk l rfl hn ok hr w hly
  · exact psteps_big hAw a _ cap r (by omega) w
end Go.Proofs.Ytahaooghebmhnaa.B
