/-
  The reference's jumps that go straight, and what is needed, as walks over the Go text.
-/
import Derived.Test.YtahaooghebmhnaaPruRefA
import Derived.Test.YtahaooghebmhnaaVerApp
namespace Go.Proofs.Ytahaooghebmhnaa.B
open Go.ChangeShapes Go.WideShapes Go.ChangeAt Go.RowKit
open Go.Sort hiding Below
set_option linter.unusedVariables false

theorem Ro.of_own {W : World} {base g n cap : Nat} {l : List M.I} (h : W.ownsRow base 46 4 (.slice (some ⟨g, 0, none⟩) n cap) n (i4s l)) (hn : l.length = n) : Ro W g n (M.at0 l) := by
  have hc : ∀ j q, j < n → q < 4 → ∀ hj : j < l.length, W.cell? ⟨g, j * 4 + q, none⟩ = [Value.int .u16 l[j].1, .int .u8 l[j].2.1, .int .u8 l[j].2.2.1, .int .u32 l[j].2.2.2][q]? := fun j q h1 h2 hj => (h.cellAt (j * 4 + q) (by omega)).trans (i4s_get l j q hj h2)
  refine ⟨(h.lt g rfl).2, fun j hj => ?_, fun j hj => ?_, fun j hj => ?_, fun j hj => ?_, fun k => h.frozenAt k⟩
  · have hjl : j < l.length := by omega
    rw [M.at0_eq hjl]; exact hc j 0 hj (by omega) hjl
  · have hjl : j < l.length := by omega
    rw [M.at0_eq hjl]; exact hc j 1 hj (by omega) hjl
  · have hjl : j < l.length := by omega
    rw [M.at0_eq hjl]; exact hc j 2 hj (by omega) hjl
  · have hjl : j < l.length := by omega
    rw [M.at0_eq hjl]; exact hc j 3 hj (by omega) hjl
/-- the row, as it is behind the first k places -/
def stX (l : List M.I) (k j : Nat) : M.I := if j < k then M.strI l j else M.at0 l j
theorem stX_zero (l : List M.I) (j : Nat) : stX l 0 j = M.at0 l j := by unfold stX; rw [if_neg (by omega)]
theorem stX_at (l : List M.I) (k : Nat) : stX l k k = M.at0 l k := by unfold stX; rw [if_neg (by omega)]
theorem stX_succ (l : List M.I) (k j : Nat) : stX l (k + 1) j = if j = k then M.strI l k else stX l k j := by
  unfold stX
  by_cases e : j = k
  · subst e; rw [if_pos (by omega), if_pos rfl]
  · rw [if_neg e]
    by_cases e2 : j < k
    · rw [if_pos e2, if_pos (by omega)]
    · rw [if_neg e2, if_neg (by omega)]

set_option maxHeartbeats 6400000 in
set_option maxRecDepth 1000000 in
theorem rstr_any (b o n cap : Nat) (l : List M.I) (hln : l.length = n) (hn : n ≤ 4096) (ok : ∀ i ∈ l, M.okI i) (hr : M.right l) (w : World) (hl : Ly w b o l) :
    Calls Try.prog 29 #[.slice (some ⟨b, o, none⟩) n cap] w fun e w' => ∃ g c, e = .returned (.slice (some ⟨g, 0, none⟩) n c) ∧ Ro w' g n (M.strI l) ∧ Below w.heap.size w w' ∧ w.heap.size ≤ g := by
  have h0 : 0 < n := by rw [← hln]; exact ((M.right_iff l).1 hr).1.1
  have HH := hid (And.intro hln (And.intro ok (And.intro hl hr)))
  have hbl : b < w.heap.size := hl.1
  clear hln ok hl hr
  go_enter Try.func29, Try.ntmps29
  go_wp2_with (at_builtin; refine wpList_append_row (by rfl) _ _ rfl w.heap.size 0 n 0 cap (some ⟨w.heap.size, 0, none⟩) (some ⟨b, o, none⟩) [] l rfl (Own.new w) rfl (HH.out.2.2.1.below (al _ _)).lies HH.out.1 (by omega) (by simp) ?_)
  intro a2 cap2 w2 hown hb
  try simp only [Nat.zero_add, List.nil_append] at hown
  obtain ⟨g, cg, hv⟩ := own_form hown.own h0
  injection hv with hv1 hv2 hv3
  subst hv1
  have hgb := (hown.own.lt g rfl).1
  have HM := hid (show Ro w2 g n (stX l 0) ∧ Below w.heap.size w w2 from ⟨(Ro.of_own hown.own hown.len).congr fun j _ => (stX_zero l j).symm, (al w _).trans hb⟩)
  clear hown hb hv3
  try simp only [Nat.zero_add]
  go_wp2
  go_loopw [4] (fun i wr => ∃ k : Nat, k ≤ n ∧ i = .int .i64 k ∧ Hid (Ro wr g n (stX l k) ∧ Below w.heap.size w wr)) (fun i _ => n - (intOf i).toNat)
  case atStart => exact ⟨0, Nat.zero_le _, rfl, HM.out⟩
  case round =>
    clear HM
    obtain ⟨k, hk, rfl, HR⟩ := hrel
    by_cases hlt : k < n
    · have i2 : (k : Int) < (n : Int) := by omega
      have hkl : k < l.length := by rw [HH.out.1]; exact hlt
      obtain ⟨x, hx⟩ : ∃ x, l[k] = x := ⟨_, rfl⟩
      have h0x : M.at0 l k = x := by rw [M.at0_eq hkl]; exact hx
      have hok : M.okI x := hx ▸ HH.out.2.1 _ (List.getElem_mem hkl)
      have HQ := hid (fun W (hb : Below w.heap.size w W) => (by rw [← hx]; exact (HH.out.2.2.1.far hb hbl).2 k hkl : LiesAt W b o k x))
      have HS := hid (stX_succ l k)
      have HA := hid (show stX l k k = x by rw [stX_at, h0x])
      have HKJ := hid (fun (h : M.kind x.1 = 11) => (show M.strI l k = (x.1, x.2.1, x.2.2.1, ((M.endOf l k - k - 1 : Nat) : Int)) ∧ k < M.endOf l k ∧ M.endOf l k < n from by
        have hj : M.isJa (M.at0 l k) = true := by rw [h0x]; exact M.isJa_iff.2 h
        refine ⟨by rw [M.strI_ja hj, h0x], ?_, by rw [← HH.out.1]; exact M.endOf_lt HH.out.2.2.2 HH.out.2.1 hkl⟩
        have := M.endOf_gt hj
        have := M.tgt_gt l k
        omega))
      have HKI := hid (fun (h : M.kind x.1 = 12) => (show M.strI l k = (x.1, ((M.strt l k (k + 1 + x.2.1.toNat) - k - 1 : Nat) : Int), ((M.strt l k (k + 1 + x.2.2.1.toNat) - k - 1 : Nat) : Int), x.2.2.2) ∧ k + 1 + x.2.1.toNat < n ∧ k + 1 + x.2.2.1.toNat < n from by
        have h' : M.kind (M.at0 l k).1 = 12 := by rw [h0x]; exact h
        have hrt : M.rets (M.at0 l k) = false := by unfold M.rets; rw [h']; rfl
        have gs : ∀ b, M.sel b k (M.at0 l k) < l.length := fun b => M.beh_lt HH.out.2.2.2 HH.out.2.1 hkl (M.mem_beh.2 (M.mem_sel.2 ⟨hrt, b, rfl⟩))
        have g1 := gs true
        have g2 := gs false
        unfold M.sel at g1 g2
        rw [if_neg (by omega), if_pos h', if_pos rfl, h0x, HH.out.1] at g1
        rw [if_neg (by omega), if_pos h', if_neg (by simp), h0x, HH.out.1] at g2
        exact ⟨by rw [M.strI_jif h', h0x], g1, g2⟩))
      have HKN := hid (fun (h1 : M.kind x.1 ≠ 11) (h2 : M.kind x.1 ≠ 12) => (show M.strI l k = x from by rw [M.strI_no (by rw [h0x]; exact h1) (by rw [h0x]; exact h2), h0x]))
      have HEnd := hid (fun W h => rend_ly b o n cap l HH.out.1 hn HH.out.2.1 HH.out.2.2.2 n k k rfl (by omega) hlt W h)
      clear hx h0x
      obtain ⟨c, t, f, d⟩ := x
      obtain ⟨b0, b1, b2, b3⟩ := hok
      simp only at b0 b1 b2 b3 HKJ HKI HKN
      obtain ⟨t, rfl⟩ : ∃ t' : Nat, t = t' := ⟨t.toNat, by omega⟩
      obtain ⟨f, rfl⟩ : ∃ f' : Nat, f = f' := ⟨f.toNat, by omega⟩
      simp only [Int.toNat_natCast] at HKI
      obtain ⟨q0, q1, q2, q3⟩ := HQ.out _ HR.out.2
      simp only at q0 q1 q2 q3
      have hbk := hid b0
      clear b0
      go_wp2_with fail
      refine (rkind_any _ hbk.out.1 hbk.out.2 _).mono ?_
      rintro e w3 ⟨rfl, hb⟩
      have HR3 := hid (show Ro w3 g n (stX l k) ∧ Below w.heap.size w w3 from ⟨HR.out.1.below hb, (stp (hid HR.out.2) hb).out⟩)
      clear hb q0 q1 q2 q3 HR
      by_cases h11 : M.kind c = 11
      · have d1 : (M.kind c == 11) = true := by simpa using h11
        obtain ⟨he, hg1, hg2⟩ := HKJ.out h11
        obtain ⟨E, hE⟩ : ∃ E, M.endOf l k = E := ⟨_, rfl⟩
        rw [hE] at HEnd he hg1 hg2
        have HE2 := hid he
        clear h11 he hE HKI HKN HKJ
        go_wp2_with fail
        refine (HEnd.out _ (HH.out.2.2.1.far HR3.out.2 hbl)).mono ?_
        rintro e w4 ⟨rfl, hb⟩
        have hR4 := HR3.out.1.below hb
        have HB4 := stp (hid HR3.out.2) hb
        have c3 := hR4.c3 k hlt
        have f3 := hR4.fz (k * 4 + 3)
        have HF := hid (show Ro (w4.setCell ⟨g, k * 4 + 3, none⟩ (.int .u32 ((E : Int) - k - 1))) g n (stX l (k + 1)) ∧ Below w.heap.size w (w4.setCell ⟨g, k * 4 + 3, none⟩ (.int .u32 ((E : Int) - k - 1))) from
          ⟨(hR4.setK k hlt _).congr (fun j hj => by
            rw [HS.out j]
            by_cases e : j = k
            · rw [if_pos e, if_pos e, HE2.out, HA.out]
              have : ((E - k - 1 : Nat) : Int) = (E : Int) - k - 1 := by omega
              rw [this]
            · rw [if_neg e, if_neg e]), HB4.out.setCell (by simp; omega) _⟩)
        clear hb HR3 hR4 HB4 HEnd
        go_wp2
        go_roundw
        case rel => exact ⟨k + 1, by omega, by go_num, HF.out⟩
        case measure => simp [intOf]; omega
      · have d1 : (M.kind c == 11) = false := by simpa using h11
        by_cases h12 : M.kind c = 12
        · have d2 : (M.kind c == 12) = true := by simpa using h12
          obtain ⟨he, hg1, hg2⟩ := HKI.out h12
          obtain ⟨A, hA⟩ : ∃ A, M.strt l k (k + 1 + t) = A := ⟨_, rfl⟩
          obtain ⟨C, hC⟩ : ∃ C, M.strt l k (k + 1 + f) = C := ⟨_, rfl⟩
          have gA1 := M.strt_ge l k (k + 1 + t)
          have gA2 := M.strt_near (l := l) (f := k) (t := k + 1 + t) (by omega)
          have gC1 := M.strt_ge l k (k + 1 + f)
          have gC2 := M.strt_near (l := l) (f := k) (t := k + 1 + f) (by omega)
          have HSa := hid (fun W h => rside_any b o n cap k (k + 1 + t) _ (by omega : (k : Int) + 1 + (t : Int) = ((k + 1 + t : Nat) : Int)) l HH.out.1 hn HH.out.2.1 HH.out.2.2.2 hg1 hlt A hA W h)
          have HSc := hid (fun W h => rside_any b o n cap k (k + 1 + f) _ (by omega : (k : Int) + 1 + (f : Int) = ((k + 1 + f : Nat) : Int)) l HH.out.1 hn HH.out.2.1 HH.out.2.2.2 hg2 hlt C hC W h)
          rw [hA] at gA1 gA2 he
          rw [hC] at gC1 gC2 he
          have HE2 := hid he
          obtain ⟨q0, q1, q2, q3⟩ := HQ.out _ HR3.out.2
          simp only at q0 q1 q2 q3
          clear h11 h12 he hA hC HKI HKN HKJ HEnd
          go_wp2_with fail
          refine (HSa.out _ (HH.out.2.2.1.far HR3.out.2 hbl)).mono ?_
          rintro e w4 ⟨rfl, hb⟩
          have hR4 := HR3.out.1.below hb
          have HB4 := stp (hid HR3.out.2) hb
          have c1 := hR4.c1 k hlt
          have f1 := hR4.fz (k * 4 + 1)
          obtain ⟨w5, hw5⟩ : ∃ w5, w4.setCell ⟨g, k * 4 + 1, none⟩ (.int .u8 ((A : Int) - k - 1)) = w5 := ⟨_, rfl⟩
          have HF := hid (show Ro w5 g n (fun j => if j = k then ((stX l k k).1, (A : Int) - k - 1, (stX l k k).2.2.1, (stX l k k).2.2.2) else stX l k j) ∧ Below w.heap.size w w5 from by
            rw [← hw5]
            exact ⟨hR4.setT k hlt _, HB4.out.setCell (by simp; omega) _⟩)
          obtain ⟨r0, r1, r2, r3⟩ := HQ.out _ HF.out.2
          simp only at r0 r1 r2 r3
          clear hb HR3 hR4 HB4 q0 q1 q2 q3
          go_wp2_with fail
          refine (HSc.out _ (HH.out.2.2.1.far HF.out.2 hbl)).mono ?_
          rintro e w6 ⟨rfl, hb⟩
          have hR6 := HF.out.1.below hb
          have HB6 := stp (hid HF.out.2) hb
          have c2 := hR6.c2 k hlt
          have f2 := hR6.fz (k * 4 + 2)
          have HG := hid (show Ro (w6.setCell ⟨g, k * 4 + 2, none⟩ (.int .u8 ((C : Int) - k - 1))) g n (stX l (k + 1)) ∧ Below w.heap.size w (w6.setCell ⟨g, k * 4 + 2, none⟩ (.int .u8 ((C : Int) - k - 1))) from
            ⟨(hR6.setF k hlt _).congr (fun j hj => by
              rw [HS.out j]
              by_cases e : j = k
              · subst e
                rw [HE2.out, HA.out]
                have e1 : ((A - j - 1 : Nat) : Int) = (A : Int) - j - 1 := by omega
                have e2 : ((C - j - 1 : Nat) : Int) = (C : Int) - j - 1 := by omega
                rw [e1, e2]
                simp only [if_true]
              · simp only [if_neg e]), HB6.out.setCell (by simp; omega) _⟩)
          clear hb HF hR6 HB6 r0 r1 r2 r3 c1 f1 hw5
          go_wp2
          go_roundw
          case rel => exact ⟨k + 1, by omega, by go_num, HG.out⟩
          case measure => simp [intOf]; omega
        · have d2 : (M.kind c == 12) = false := by simpa using h12
          have HE2 := hid (HKN.out h11 h12)
          clear h11 h12 HKI HKN HKJ HEnd
          go_wp2
          go_roundw
          case rel => exact ⟨k + 1, by omega, by go_num, HR3.out.1.congr (fun j hj => by
            rw [HS.out j]
            by_cases e : j = k
            · subst e; rw [if_pos rfl, HE2.out, HA.out]
            · rw [if_neg e]), HR3.out.2⟩
          case measure => simp [intOf]; omega
    · obtain rfl : k = n := by omega
      have HF := hid (show Ro wr g k (M.strI l) from HR.out.1.congr fun j hj => by unfold stX; rw [if_pos hj])
      go_wp2
      go_ret
      exact ⟨g, cap2, rfl, HF.out, HR.out.2, hgb⟩
end Go.Proofs.Ytahaooghebmhnaa.B
