/-
  The walk of the statement TermOnly where the row may be, over what the program's own functions answer.
-/
import Derived.Test.YtmjeoknndnbglaaTerLawN
namespace Go.Proofs.Ytmjeoknndnbglaa.TB
open Go.ChangeShapes Go.WideShapes Go.ChangeAt Go.RowKit
open Go.Sort hiding Below
set_option linter.unusedVariables false
set_option maxRecDepth 100000

set_option maxHeartbeats 6400000 in
set_option maxRecDepth 1000000 in
theorem tonly_good (hAw : Aw11) (hOn : OnOk) (A : Option Addr) (n cap : Nat) (B : Option Addr) (m cap' : Nat) (r : List Int) (hk : R.okR r) (l : List TM.N) (R : List Int) (hln : l.length = n) (hlm : R.length = m) (hn : n ≤ 100) (hm : m ≤ 20) (ok : ∀ x ∈ l, TM.okN x) (hrb : TM.rowB l = true) (hin : inB l R) (w : World) (hl : LiesN w A l) (hR : LiesI w B R) :
    Calls Try.prog 6 #[.slice A n cap, .slice B m cap', .agg (RB.enc r)] w fun e w' => e = .returned (.bool true) ∧ Below w.heap.size w w' := by
  obtain ⟨i0, hi, hz0, hz1, hz2⟩ := info_parts infob
  have hd : decide (100 < (n : Int)) = false := decide_eq_false (by omega)
  have hd2 : decide (20 < (m : Int)) = false := decide_eq_false (by omega)
  have hr := TM.row_iff.1 hrb
  have HB := hid (al w (.cells (RB.enc r) 25))
  have HAw := hid hAw
  have HRt := hid (fun W (h : LiesN W A l) => rrow_any A n cap l hln (by omega) ok W h true hrb)
  have HIn := hid (fun b o (k : Nat) (hk : k < n) W (h : LyN W b o l) => rin_any b o n cap k l hln hr ok hk W h)
  have HIB := hid hin
  have HOn := hid (fun a c b d W (h : LiesN W a l) (h2 : LiesI W b R) => hOn a n c l b m d R hln hlm (by omega) ok hr hin W h h2)
  have HRc := hid (RB.Rec.new w r hk.1)
  have HOr := hid (And.intro (TM.only_row hr R) (TM.only_ok hr ok R))
  have HVl := hid (fun W (h : LiesN W A l) => rvals_any A n cap l hln hr ok r hk W h)
  have HKr := hid hk
  have HH := hid (And.intro hln (And.intro hl (And.intro hlm hR)))
  have HOk := hid (And.intro hr ok)
  have hlmR := hlm
  clear hAw hOn hln hlm ok hr hrb hl hR hin
  go_enter Try.func6, Try.ntmps6
  go_wp2_with fail
  refine (HAw.out _).mono ?_
  rintro e w1 ⟨rfl, hb⟩
  replace HRc := hid (HRc.out.below hb HRc.out.lt)
  replace HB := stp HB hb
  clear hb HAw
  go_wp2_with (at_builtin; refine wpList_append_nodes (by rfl) _ _ rfl w1.heap.size 0 n 0 cap (some ⟨w1.heap.size, 0, none⟩) A [] l rfl (own_new w1) rfl (HH.out.2.1.below (stp HB (al _ _)).out) HH.out.1 (by omega) (by simp) ?_)
  intro a2 cap2 w2 hown hb
  try simp only [Nat.zero_add, List.nil_append] at hown
  have hb2 := (al w1 (.cells #[] 56)).trans hb
  replace HRc := hid (HRc.out.below hb2 HRc.out.lt)
  replace HB := stp HB hb2
  have HO1 := hid hown
  clear hown hb hb2
  try simp only [Nat.zero_add]
  go_wp2_with (at_builtin; refine wpList_append_ints (by rfl) _ _ rfl w2.heap.size 0 m 0 cap' (some ⟨w2.heap.size, 0, none⟩) B [] R rfl (OwnI.new w2) rfl (HH.out.2.2.2.below (stp HB (al _ _)).out) HH.out.2.2.1 (by omega) (by simp) ?_)
  intro a3 cap3 w3 hown hb
  try simp only [Nat.zero_add, List.nil_append] at hown
  have hb2 := (al w2 (.cells #[] 3)).trans hb
  replace HRc := hid (HRc.out.below hb2 HRc.out.lt)
  replace HB := stp HB hb2
  have HO := hid (And.intro (HO1.out.lies.below hb2) hown.lies)
  clear hown hb hb2 HO1
  try simp only [Nat.zero_add]
  go_wp2_with fail
  refine (HOn.out _ _ _ _ _ HO.out.1 HO.out.2).mono ?_
  rintro e w4 ⟨a4, c4, b4, d4, rfl, hx4, hy4, hb⟩
  replace HRc := hid (HRc.out.below hb HRc.out.lt)
  replace HB := stp HB hb
  have H4 := hid (And.intro hx4 hy4)
  clear hb HO HOn hx4 hy4
  obtain ⟨q, hq⟩ : ∃ q, (TM.onlyL l R).length = q := ⟨_, rfl⟩
  rw [hq]
  have HQ := hid hq
  clear hq
  go_wp2_with fail
  refine (HRt.out _ (HH.out.2.1.below HB.out)).mono ?_
  rintro e w5 ⟨rfl, hb⟩
  replace HRc := hid (HRc.out.below hb HRc.out.lt)
  replace H4 := hid (And.intro (H4.out.1.below hb) (H4.out.2.below hb))
  replace HB := stp HB hb
  clear hb HRt
  go_wp2_with (at_make; refine wpList_make_full _ rfl _ _ 50 rfl w5.heap.size 4 i0 (.bool false) 1 Try.underlying50 hi hz0 hz1 .i64 .i64 n n n rfl rfl rfl rfl ?c1 ?c2 (Nat.le_refl _) ?_)
  case c1 => rw [hz2]; omega
  case c2 => unfold maxLen; omega
  intro wm hown hgrow
  have hbm : Below w5.heap.size w5 wm := (Below.refl _ _).grown hgrow (Nat.le_refl _) (by intro k hk; cases hk)
  obtain ⟨g, hg⟩ : ∃ g, w5.heap.size = g := ⟨_, rfl⟩
  have HM := hid (show Row wm g n (fun i => .bool (TM.inR l (R.take 0) i)) ∧ Below w.heap.size w wm ∧ w.heap.size ≤ g ∧ Below g w5 wm from by
    rw [← hg]
    exact ⟨(Row.of_own hown (fun j hj => made_get (.bool false) n j hj) (hown.lt _ rfl).2).congr fun j _ => by simp [TM.inR], (stp HB hbm).out, HB.out.size, hbm⟩)
  have HG5 := hid (And.intro hg (And.intro HRc.out (And.intro H4.out.1 H4.out.2)))
  rw [hg]
  clear hown hgrow hbm HB hg HRc H4
  go_wp2
  go_loopw [65] (fun jv wr => ∃ (j : Nat), j ≤ m ∧ jv = .int .i64 j ∧ Hid ((∀ i, i < j → 0 ≤ R.getD i 0 ∧ R.getD i 0 < (n : Int)) ∧ Row wr g n (fun i => .bool (TM.inR l (R.take j) i)) ∧ Below w.heap.size w wr ∧ w.heap.size ≤ g ∧ Below g w5 wr)) (fun jv _ => m - (intOf jv).toNat)
  case atStart => exact ⟨0, Nat.zero_le _, rfl, fun i hi => absurd hi (Nat.not_lt_zero _), HM.out⟩
  case round =>
    clear HM
    obtain ⟨j, hj, rfl, HR⟩ := hrel
    by_cases hjm : j < m
    · have i2 : (j : Int) < (m : Int) := by omega
      have hjR : j < R.length := by rw [HH.out.2.2.1]; exact hjm
      obtain ⟨bR, oR, rfl, hbR, hcR⟩ := (HH.out.2.2.2.below HR.out.2.2.1).at (by omega)
      have cx := hcR j hjR
      obtain ⟨x, hx⟩ : ∃ x, R[j] = x := ⟨_, rfl⟩
      have hx0 : R.getD j 0 = x := by rw [List.getD_eq_getElem?_getD, List.getElem?_eq_getElem hjR, Option.getD_some]; exact hx
      rw [hx] at cx
      by_cases hv : 0 ≤ x ∧ x < (n : Int)
      · obtain ⟨y, rfl⟩ : ∃ y : Nat, x = y := ⟨x.toNat, by omega⟩
        have hyn : y < n := by omega
        have d1 : decide (n ≤ y) = false := decide_eq_false (by omega)
        have HJ := hid (show (∀ i, i < j + 1 → 0 ≤ R.getD i 0 ∧ R.getD i 0 < (n : Int)) ∧ ∀ i, TM.inR l (R.take (j + 1)) i = (TM.inR l (R.take j) i || TM.inT l y i) from
          ⟨fun i hi => by
            by_cases e : i = j
            · subst e; rw [hx0]; exact hv
            · exact HR.out.1 i (by omega), fun i => by rw [TM.inR_take hjR, hx, Int.toNat_natCast]⟩)
        obtain ⟨b, o, rfl, hly⟩ := HH.out.2.1.ly (by rw [HH.out.1]; omega)
        have HL := hid hly
        have HI1 := hid (HIn.out b o y hyn)
        clear hx hx0 hv hly hcR
        go_wp2_with fail
        refine (HI1.out _ (HL.out.below HR.out.2.2.1)).mono ?_
        rintro e w6 ⟨gi, rfl, hRi, hb, hgi⟩
        have hgg := HR.out.2.1.lt
        have HS := hid (show Row w6 gi n (fun i => .bool (TM.inT l y i)) ∧ gi ≠ g ∧ Row w6 g n (fun i => .bool (TM.inR l (R.take j) i || (decide (i < 0) && TM.inT l y i))) ∧ Below w.heap.size w w6 ∧ w.heap.size ≤ g ∧ Below g w5 w6 from
          ⟨hRi, by omega, (HR.out.2.1.below hb).congr fun i _ => by simp, (stp (hid HR.out.2.2.1) hb).out, HR.out.2.2.2.1, HR.out.2.2.2.2.trans (hb.mono (Nat.le_of_lt HR.out.2.1.lt))⟩)
        clear hRi hb hgi hgg HI1 HL cx HR
        go_wp2
        go_loopw [93] (fun sv wr => ∃ (s : Nat), s ≤ n ∧ sv = .int .i64 s ∧ Hid (Row wr gi n (fun i => .bool (TM.inT l y i)) ∧ gi ≠ g ∧ Row wr g n (fun i => .bool (TM.inR l (R.take j) i || (decide (i < s) && TM.inT l y i))) ∧ Below w.heap.size w wr ∧ w.heap.size ≤ g ∧ Below g w5 wr)) (fun sv _ => n - (intOf sv).toNat)
        case atStart => exact ⟨0, Nat.zero_le _, rfl, HS.out⟩
        case round =>
          clear HS
          obtain ⟨s, hs, rfl, HR⟩ := hrel
          by_cases hsn : s < n
          · have i3 : (s : Int) < (n : Int) := by omega
            have ci := HR.out.1.cell s hsn
            have cg := HR.out.2.2.1.cell s hsn
            have fg := HR.out.2.2.1.froz s hsn
            have e0 : (TM.inR l (R.take j) s || (decide (s < s) && TM.inT l y s)) = TM.inR l (R.take j) s := by simp
            rw [e0] at cg
            obtain ⟨p, hp⟩ : ∃ p, TM.inR l (R.take j) s = p := ⟨_, rfl⟩
            obtain ⟨h, hh⟩ : ∃ h, TM.inT l y s = h := ⟨_, rfl⟩
            rw [hp] at cg
            rw [hh] at ci
            have HF := hid (show Row (wr.setCell ⟨g, s, none⟩ (.bool (p || h))) gi n (fun i => .bool (TM.inT l y i)) ∧ gi ≠ g ∧ Row (wr.setCell ⟨g, s, none⟩ (.bool (p || h))) g n (fun i => .bool (TM.inR l (R.take j) i || (decide (i < s + 1) && TM.inT l y i))) ∧ Below w.heap.size w (wr.setCell ⟨g, s, none⟩ (.bool (p || h))) ∧ w.heap.size ≤ g ∧ Below g w5 (wr.setCell ⟨g, s, none⟩ (.bool (p || h))) from
              ⟨HR.out.1.other _ _ _ (fun e => HR.out.2.1 e.symm), HR.out.2.1, (HR.out.2.2.1.set s hsn _).congr fun i hi => by
                by_cases e : i = s
                · subst e; rw [if_pos rfl, hp, hh, decide_eq_true (show i < i + 1 by omega)]; simp
                · rw [if_neg e]
                  by_cases e2 : i < s
                  · rw [decide_eq_true e2, decide_eq_true (show i < s + 1 by omega)]
                  · rw [decide_eq_false e2, decide_eq_false (show ¬ i < s + 1 by omega)], HR.out.2.2.2.1.setCell HR.out.2.2.2.2.1 _, HR.out.2.2.2.2.1, HR.out.2.2.2.2.2.setCell (Nat.le_refl _) _⟩)
            clear hp hh e0 HR
            cases p <;> cases h
            all_goals
              simp only [Bool.or_true, Bool.or_false] at HF
              go_wp2
              go_roundw
              case rel => exact ⟨s + 1, by omega, by go_num, HF.out⟩
              case measure => simp [intOf]; omega
          · obtain rfl : n = s := by omega
            have HF := hid (show Row wr g n (fun i => .bool (TM.inR l (R.take (j + 1)) i)) ∧ Below w.heap.size w wr ∧ w.heap.size ≤ g ∧ Below g w5 wr from ⟨HR.out.2.2.1.congr fun i hi => by rw [HJ.out.2, decide_eq_true hi]; simp, HR.out.2.2.2⟩)
            clear HR
            go_wp2
            go_roundw
            case rel => exact ⟨j + 1, by omega, by go_num, HJ.out.1, HF.out⟩
            case measure => simp [intOf]; omega
      · exfalso
        have := HIB.out x (by rw [← hx]; exact List.getElem_mem hjR)
        rw [HH.out.1] at this
        exact hv this
    · obtain rfl : m = j := by omega
      have hRt : R.take m = R := List.take_of_length_le (by rw [HH.out.2.2.1]; exact Nat.le_refl _)
      have hb5 : Below w5.heap.size w5 wr := by rw [HG5.out.1]; exact HR.out.2.2.2.2
      have HE := hid (show Row wr g n (fun i => .bool (TM.inR l R i)) ∧ Below w.heap.size w wr ∧ RB.Rec wr w.heap.size r ∧ LiesN wr a4 (TM.onlyL l R) ∧ RowO wr b4 m (fun j => .int .i64 ((TM.cnP (TM.inR l R) (R.getD j 0).toNat : Nat) : Int)) from
        ⟨by have := HR.out.2.1; rw [hRt] at this; exact this, HR.out.2.2.1, HG5.out.2.1.below hb5 HG5.out.2.1.lt, HG5.out.2.2.1.below hb5, HG5.out.2.2.2.below hb5⟩)
      have HRo := hid (fun W (h : LiesN W a4 (TM.onlyL l R)) => rrow_any a4 q c4 (TM.onlyL l R) HQ.out (by have := HOr.out.1.1; rw [HQ.out] at this; omega) HOr.out.2 W h true (TM.row_iff.2 HOr.out.1))
      have HV2 := hid (fun W (h : LiesN W a4 (TM.onlyL l R)) => rvals_any a4 q c4 (TM.onlyL l R) HQ.out HOr.out.1 HOr.out.2 r HKr.out W h)
      have HRv := hid HR.out.1
      have hmm : ((m : Int) != (m : Int)) = false := by simp
      clear HR hRt hb5 HG5
      go_wp2_with fail
      refine (HRo.out _ HE.out.2.2.2.1).mono ?_
      rintro e w6 ⟨rfl, hb⟩
      replace HE := hid (show Row w6 g n (fun i => .bool (TM.inR l R i)) ∧ Below w.heap.size w w6 ∧ RB.Rec w6 w.heap.size r ∧ LiesN w6 a4 (TM.onlyL l R) ∧ RowO w6 b4 m (fun j => .int .i64 ((TM.cnP (TM.inR l R) (R.getD j 0).toNat : Nat) : Int)) from
        ⟨HE.out.1.below hb, (stp (hid HE.out.2.1) hb).out, HE.out.2.2.1.below hb HE.out.2.2.1.lt, HE.out.2.2.2.1.below hb, HE.out.2.2.2.2.below hb⟩)
      clear hb HRo
      have hX := RB.lcf_eq
      have hsz16 := RB.enc_size HKr.out.1
      go_wp2
      have hdr := (Below.refl w6.heap.size w6).drew
      have HS := hid (fun W (hb : Below w6.heap.size w6 W) => (show Row W g n (fun i => .bool (TM.inR l R i)) ∧ Below w.heap.size w W ∧ RB.Rec W w.heap.size r ∧ LiesN W a4 (TM.onlyL l R) ∧ RowO W b4 m (fun j => .int .i64 ((TM.cnP (TM.inR l R) (R.getD j 0).toNat : Nat) : Int)) ∧ LiesN W A l from
        ⟨HE.out.1.below hb, (stp (hid HE.out.2.1) hb).out, HE.out.2.2.1.below hb HE.out.2.2.1.lt, HE.out.2.2.2.1.below hb, HE.out.2.2.2.2.below hb, HH.out.2.1.below (stp (hid HE.out.2.1) hb).out⟩))
      have HBd := hid hdr
      have hld := (HS.out _ HBd.out).2.2.1.load
      clear hdr HE
      go_region_with (first
        | (go_at_call_of 14 (Value.slice A n cap); refine (HVl.out _ (HS.out _ HBd.out).2.2.2.2.2).mono ?_; rintro e w7 ⟨g1, rfl, hR1, hb, _⟩; clear hld; have HV1c := hid (And.intro hR1 (Below.refl w7.heap.size w7)); replace HBd := stp HBd hb; clear hb hR1; have hld := (HS.out _ HBd.out).2.2.1.load)
        | (go_at_call_of 14 (Value.slice a4 q c4); refine (HV2.out _ (HS.out _ HBd.out).2.2.2.1).mono ?_; rintro e w8 ⟨g2, rfl, hR2, hb, _⟩; clear hld; replace HBd := stp HBd hb; have HV2c := hid (And.intro hR2 hb); clear hb hR2; have hld := (HS.out _ HBd.out).2.2.1.load))
      all_goals
        obtain ⟨hRg, hBw, _, hLo, hRb, hLl⟩ := HS.out _ HBd.out
        have HT := hid (And.intro hRg (And.intro hBw (And.intro hLo (And.intro hRb (And.intro hLl (And.intro (HV1c.out.1.below HV2c.out.2) HV2c.out.1))))))
        clear hRg hBw hLo hRb hLl HS HBd HV1c HV2c hld hX hsz16 HVl HV2
        have hzz : ∀ z : Int, (z != z) = false := fun z => by simp
        go_wp2
        go_loopw [17, 132] (fun kv iv wr => ∃ (i c z : Nat), i ≤ n ∧ c ≤ i ∧ kv = .int .i64 c ∧ iv = .int .i64 i ∧ Hid (TM.cnP (TM.inR l R) i = c) ∧ wr = w8.drewN z) (fun _ iv _ => n - (intOf iv).toNat)
        case atStart => exact ⟨0, 0, 0, Nat.zero_le _, Nat.le_refl _, rfl, rfl, rfl, rfl⟩
        case round =>
          obtain ⟨i, c, z, hin, hci, rfl, rfl, HC, rfl⟩ := hrel
          by_cases hlt : i < n
          · have i2 : (i : Int) < (n : Int) := by omega
            have hil : i < l.length := by rw [HH.out.1]; exact hlt
            have cg := HT.out.1.cell i hlt
            cases hc : TM.inR l R i with
            | false =>
              simp only [hc] at cg
              have HF := hid (show TM.cnP (TM.inR l R) (i + 1) = c from by rw [TM.cnP_succ, hc, HC.out]; rfl)
              clear hc
              go_wp2
              go_roundw
              case rel => exact ⟨i + 1, c, z, by omega, by omega, rfl, by go_num, HF.out, rfl⟩
              case measure => simp [intOf]; omega
            | true =>
              simp only [hc] at cg
              have HF := hid (show TM.cnP (TM.inR l R) (i + 1) = c + 1 from by rw [TM.cnP_succ, hc, HC.out, if_pos rfl])
              have hcq : c < q := by rw [← HC.out, ← HQ.out]; exact TM.only_lt l R hil hc
              have i3 : (c : Int) < (q : Int) := by omega
              have d1 : decide (q ≤ c) = false := decide_eq_false (by omega)
              obtain ⟨bo, oo, rfl, hlo⟩ := HT.out.2.2.1.ly (by rw [HQ.out]; omega)
              obtain ⟨bl, ol, rfl, hll⟩ := HT.out.2.2.2.2.1.ly (by omega)
              obtain ⟨p0, _, _, p3⟩ := hlo.2 c (by rw [HQ.out]; exact hcq)
              obtain ⟨r0, _, _, r3⟩ := hll.2 i hil
              have heq : (TM.onlyL l R)[c]'(by rw [HQ.out]; exact hcq) = TM.moved l[i] (TM.cnP (TM.inR l R)) := by
                rw [← TM.nat0_eq (by rw [HQ.out]; exact hcq), ← TM.nat0_eq hil, ← HC.out]; exact TM.only_at l R hil hc
              rw [heq, (TM.moved_op l[i] (TM.cnP (TM.inR l R))).1] at p0
              rw [heq, (TM.moved_op l[i] (TM.cnP (TM.inR l R))).2] at p3
              have c1 := HT.out.2.2.2.2.2.1.cell i hlt
              have c2 := HT.out.2.2.2.2.2.2.cell c hcq
              have hval : TM.val (TM.onlyL l R) r c = TM.val l r i := by rw [← HC.out]; exact TM.only_val HOk.out.1 R r i hil hc
              simp only [hval] at c2
              generalize l[i] = x at *
              obtain ⟨x0, _, _, x3⟩ := x
              simp only at p0 p3 r0 r3
              generalize TM.val l r i = y at *
              clear hc heq hval hlo hll
              go_wp2
              go_quiet (fail)
              go_wp2
              go_roundw
              case rel => exact ⟨i + 1, c + 1, _, by omega, by omega, by go_num, by go_num, HF.out, rfl⟩
              case measure => simp [intOf]; omega
          · obtain rfl : n = i := by omega
            have hcq : c = q := by rw [← HC.out, ← HQ.out, TM.only_len, HH.out.1]
            subst hcq
            go_wp2
            go_loopw [186] (fun jv wr => ∃ (j z : Nat), j ≤ m ∧ jv = .int .i64 j ∧ wr = w8.drewN z) (fun jv _ => m - (intOf jv).toNat)
            case atStart => exact ⟨0, z, Nat.zero_le _, rfl, rfl⟩
            case round =>
              obtain ⟨j, z, hj, rfl, rfl⟩ := hrel
              by_cases hjm : j < m
              · have i3 : (j : Int) < (m : Int) := by omega
                have hjR : j < R.length := by rw [HH.out.2.2.1]; exact hjm
                have hv := HRv.out j hjm
                have hx0 : R.getD j 0 = R[j] := by rw [List.getD_eq_getElem?_getD, List.getElem?_eq_getElem hjR, Option.getD_some]
                obtain ⟨bR, oR, rfl, hbR, hcR⟩ := (HH.out.2.2.2.below HT.out.2.1).at (by omega)
                have cx := hcR j hjR
                obtain ⟨bp, op, rfl, _, hcp⟩ : ∃ g o, b4 = some ⟨g, o, none⟩ ∧ g < w8.heap.size ∧ ∀ j, j < m → w8.cell? ⟨g, o + j, none⟩ = some (.int .i64 ((TM.cnP (TM.inR l R) (R.getD j 0).toNat : Nat) : Int)) := by
                  rcases HT.out.2.2.2.1 with h | h
                  · omega
                  · exact h
                have cp := hcp j hjm
                have hmem : R[j] ∈ R := List.getElem_mem hjR
                have hin2 := TM.inR_root (l := l) hmem
                rw [hx0] at hv cp
                obtain ⟨y, hy⟩ : ∃ y : Nat, R[j] = y := ⟨R[j].toNat, by omega⟩
                rw [hy] at hv cx cp hin2
                simp only [Int.toNat_natCast] at cp hin2
                have hyn : y < n := by omega
                have hyl : y < l.length := by rw [HH.out.1]; exact hyn
                obtain ⟨p, hp⟩ : ∃ p, TM.cnP (TM.inR l R) y = p := ⟨_, rfl⟩
                have hpq : p < c := by rw [← hp, ← HQ.out]; exact TM.only_lt l R hyl hin2
                rw [hp] at cp
                have i4 : (y : Int) < (n : Int) := by omega
                have i5 : (p : Int) < (c : Int) := by omega
                have d1 : decide ((p : Int) < 0) = false := decide_eq_false (by omega)
                have d2 : decide (c ≤ p) = false := decide_eq_false (by omega)
                obtain ⟨bo, oo, rfl, hlo⟩ := HT.out.2.2.1.ly (by rw [HQ.out]; omega)
                obtain ⟨bl, ol, rfl, hll⟩ := HT.out.2.2.2.2.1.ly (by omega)
                obtain ⟨p0, _, _, p3⟩ := hlo.2 p (by rw [HQ.out]; exact hpq)
                obtain ⟨r0, _, _, r3⟩ := hll.2 y hyl
                have heq : (TM.onlyL l R)[p]'(by rw [HQ.out]; exact hpq) = TM.moved l[y] (TM.cnP (TM.inR l R)) := by
                  rw [← TM.nat0_eq (by rw [HQ.out]; exact hpq), ← TM.nat0_eq hyl, ← hp]; exact TM.only_at l R hyl hin2
                rw [heq, (TM.moved_op l[y] (TM.cnP (TM.inR l R))).1] at p0
                rw [heq, (TM.moved_op l[y] (TM.cnP (TM.inR l R))).2] at p3
                have c1 := HT.out.2.2.2.2.2.1.cell y hyn
                have c2 := HT.out.2.2.2.2.2.2.cell p hpq
                have hval : TM.val (TM.onlyL l R) r p = TM.val l r y := by rw [← hp]; exact TM.only_val HOk.out.1 R r y hyl hin2
                simp only [hval] at c2
                clear heq hval hlo hll hp hin2 hx0 hcR hcp hv hmem hy
                generalize l[y] = x at *
                obtain ⟨x0, _, _, x3⟩ := x
                simp only at p0 p3 r0 r3
                generalize TM.val l r y = u at *
                go_wp2
                go_quiet (fail)
                go_wp2
                go_roundw
                case rel => exact ⟨j + 1, _, by omega, by go_num, rfl⟩
                case measure => simp [intOf]; omega
              · obtain rfl : m = j := by omega
                have hqq : ((c : Int) == (c : Int)) = true := by simp
                go_wp2
                go_ret
                exact ⟨rfl, bdrew HT.out.2.1 z⟩
end Go.Proofs.Ytmjeoknndnbglaa.TB
