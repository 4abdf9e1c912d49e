/-
  The walk of the statement TermOnly where the row may be, over what the program's own functions answer.
-/
import Derived.Test.YtmjeoknndnbglaaTerLawO
namespace Go.Proofs.Ytmjeoknndnbglaa.TM
theorem inR_take {l : List N} {R : List Int} {j : Nat} (h : j < R.length) (i : Nat) : inR l (R.take (j + 1)) i = (inR l (R.take j) i || inT l R[j].toNat i) := by
  unfold inR
  rw [List.take_succ_eq_append_getElem h, List.any_append]
  simp
end Go.Proofs.Ytmjeoknndnbglaa.TM
namespace Go.Proofs.Ytmjeoknndnbglaa.TB
open Go.ChangeShapes Go.WideShapes Go.ChangeAt Go.RowKit
open Go.Sort hiding Below
set_option linter.unusedVariables false
set_option maxRecDepth 100000

set_option maxHeartbeats 6400000 in
set_option maxRecDepth 1000000 in
theorem tonly_out (hAw : Aw11) (hOn : OnOut) (A : Option Addr) (n cap : Nat) (B : Option Addr) (m cap' : Nat) (r : List Int) (hk : R.okR r) (l : List TM.N) (R : List Int) (hln : l.length = n) (hlm : R.length = m) (hn : n ≤ 100) (hm : m ≤ 20) (ok : ∀ x ∈ l, TM.okN x) (hrb : TM.rowB l = true) (hin : ¬ inB l R) (hRb : ∀ i ∈ R, -9223372036854775808 ≤ i ∧ i < 9223372036854775808) (w : World) (hl : LiesN w A l) (hR : LiesI w B R) :
    Calls Try.prog 6 #[.slice A n cap, .slice B m cap', .agg (RB.enc r)] w fun e w' => e = .returned (.bool true) ∧ Below w.heap.size w w' := by
  obtain ⟨i0, hi, hz0, hz1, hz2⟩ := info_parts infob
  have hd : decide (100 < (n : Int)) = false := decide_eq_false (by omega)
  have hd2 : decide (20 < (m : Int)) = false := decide_eq_false (by omega)
  have hr := TM.row_iff.1 hrb
  have HB := hid (al w (.cells (RB.enc r) 25))
  have HAw := hid hAw
  have HRt := hid (fun W (h : LiesN W A l) => rrow_any A n cap l hln (by omega) ok W h true hrb)
  have HIn := hid (fun b o (k : Nat) (hk : k < n) W (h : LyN W b o l) => rin_any b o n cap k l hln hr ok hk W h)
  have HIB := hid hin
  have HOn := hid (fun a c b d W (h : LiesN W a l) (h2 : LiesI W b R) => hOn a n c l b m d R hln hlm (by omega) ok hr hin hRb W h h2)
  have HH := hid (And.intro hln (And.intro hl (And.intro hlm hR)))
  have HOk := hid (And.intro hr ok)
  have hlmR := hlm
  clear hAw hOn hln hlm ok hr hrb hl hR hin hRb hk
  go_enter Try.func6, Try.ntmps6
  go_wp2_with fail
  refine (HAw.out _).mono ?_
  rintro e w1 ⟨rfl, hb⟩
  replace HB := stp HB hb
  clear hb HAw
  go_wp2_with (at_builtin; refine wpList_append_nodes (by rfl) _ _ rfl w1.heap.size 0 n 0 cap (some ⟨w1.heap.size, 0, none⟩) A [] l rfl (own_new w1) rfl (HH.out.2.1.below (stp HB (al _ _)).out) HH.out.1 (by omega) (by simp) ?_)
  intro a2 cap2 w2 hown hb
  try simp only [Nat.zero_add, List.nil_append] at hown
  have hb2 := (al w1 (.cells #[] 56)).trans hb
  replace HB := stp HB hb2
  have HO1 := hid hown
  clear hown hb hb2
  try simp only [Nat.zero_add]
  go_wp2_with (at_builtin; refine wpList_append_ints (by rfl) _ _ rfl w2.heap.size 0 m 0 cap' (some ⟨w2.heap.size, 0, none⟩) B [] R rfl (OwnI.new w2) rfl (HH.out.2.2.2.below (stp HB (al _ _)).out) HH.out.2.2.1 (by omega) (by simp) ?_)
  intro a3 cap3 w3 hown hb
  try simp only [Nat.zero_add, List.nil_append] at hown
  have hb2 := (al w2 (.cells #[] 3)).trans hb
  replace HB := stp HB hb2
  have HO := hid (And.intro (HO1.out.lies.below hb2) hown.lies)
  clear hown hb hb2 HO1
  try simp only [Nat.zero_add]
  go_wp2_with fail
  refine (HOn.out _ _ _ _ _ HO.out.1 HO.out.2).mono ?_
  rintro e w4 ⟨a4, c4, b4, d4, rfl, hb⟩
  replace HB := stp HB hb
  clear hb HO HOn
  go_wp2_with fail
  refine (HRt.out _ (HH.out.2.1.below HB.out)).mono ?_
  rintro e w5 ⟨rfl, hb⟩
  replace HB := stp HB hb
  clear hb HRt
  go_wp2_with (at_make; refine wpList_make_full _ rfl _ _ 50 rfl w5.heap.size 4 i0 (.bool false) 1 Try.underlying50 hi hz0 hz1 .i64 .i64 n n n rfl rfl rfl rfl ?c1 ?c2 (Nat.le_refl _) ?_)
  case c1 => rw [hz2]; omega
  case c2 => unfold maxLen; omega
  intro wm hown hgrow
  have hbm : Below w5.heap.size w5 wm := (Below.refl _ _).grown hgrow (Nat.le_refl _) (by intro k hk; cases hk)
  obtain ⟨g, hg⟩ : ∃ g, w5.heap.size = g := ⟨_, rfl⟩
  have HM := hid (show Row wm g n (fun i => .bool (TM.inR l (R.take 0) i)) ∧ Below w.heap.size w wm ∧ w.heap.size ≤ g from by
    rw [← hg]
    exact ⟨(Row.of_own hown (fun j hj => made_get (.bool false) n j hj) (hown.lt _ rfl).2).congr fun j _ => by simp [TM.inR], (stp HB hbm).out, HB.out.size⟩)
  rw [hg]
  clear hown hgrow hbm HB hg
  go_wp2
  go_loopw [65] (fun jv wr => ∃ (j : Nat), j ≤ m ∧ jv = .int .i64 j ∧ Hid ((∀ i, i < j → 0 ≤ R.getD i 0 ∧ R.getD i 0 < (n : Int)) ∧ Row wr g n (fun i => .bool (TM.inR l (R.take j) i)) ∧ Below w.heap.size w wr ∧ w.heap.size ≤ g)) (fun jv _ => m - (intOf jv).toNat)
  case atStart => exact ⟨0, Nat.zero_le _, rfl, fun i hi => absurd hi (Nat.not_lt_zero _), HM.out⟩
  case round =>
    clear HM
    obtain ⟨j, hj, rfl, HR⟩ := hrel
    by_cases hjm : j < m
    · have i2 : (j : Int) < (m : Int) := by omega
      have hjR : j < R.length := by rw [HH.out.2.2.1]; exact hjm
      obtain ⟨bR, oR, rfl, hbR, hcR⟩ := (HH.out.2.2.2.below HR.out.2.2.1).at (by omega)
      have cx := hcR j hjR
      obtain ⟨x, hx⟩ : ∃ x, R[j] = x := ⟨_, rfl⟩
      have hx0 : R.getD j 0 = x := by rw [List.getD_eq_getElem?_getD, List.getElem?_eq_getElem hjR, Option.getD_some]; exact hx
      rw [hx] at cx
      by_cases hv : 0 ≤ x ∧ x < (n : Int)
      · obtain ⟨y, rfl⟩ : ∃ y : Nat, x = y := ⟨x.toNat, by omega⟩
        have hyn : y < n := by omega
        have d1 : decide (n ≤ y) = false := decide_eq_false (by omega)
        have HJ := hid (show (∀ i, i < j + 1 → 0 ≤ R.getD i 0 ∧ R.getD i 0 < (n : Int)) ∧ ∀ i, TM.inR l (R.take (j + 1)) i = (TM.inR l (R.take j) i || TM.inT l y i) from
          ⟨fun i hi => by
            by_cases e : i = j
            · subst e; rw [hx0]; exact hv
            · exact HR.out.1 i (by omega), fun i => by rw [TM.inR_take hjR, hx, Int.toNat_natCast]⟩)
        obtain ⟨b, o, rfl, hly⟩ := HH.out.2.1.ly (by rw [HH.out.1]; omega)
        have HL := hid hly
        have HI1 := hid (HIn.out b o y hyn)
        clear hx hx0 hv hly hcR
        go_wp2_with fail
        refine (HI1.out _ (HL.out.below HR.out.2.2.1)).mono ?_
        rintro e w6 ⟨gi, rfl, hRi, hb, hgi⟩
        have hgg := HR.out.2.1.lt
        have HS := hid (show Row w6 gi n (fun i => .bool (TM.inT l y i)) ∧ gi ≠ g ∧ Row w6 g n (fun i => .bool (TM.inR l (R.take j) i || (decide (i < 0) && TM.inT l y i))) ∧ Below w.heap.size w w6 ∧ w.heap.size ≤ g from
          ⟨hRi, by omega, (HR.out.2.1.below hb).congr fun i _ => by simp, (stp (hid HR.out.2.2.1) hb).out, HR.out.2.2.2⟩)
        clear hRi hb hgi hgg HI1 HL cx HR
        go_wp2
        go_loopw [93] (fun sv wr => ∃ (s : Nat), s ≤ n ∧ sv = .int .i64 s ∧ Hid (Row wr gi n (fun i => .bool (TM.inT l y i)) ∧ gi ≠ g ∧ Row wr g n (fun i => .bool (TM.inR l (R.take j) i || (decide (i < s) && TM.inT l y i))) ∧ Below w.heap.size w wr ∧ w.heap.size ≤ g)) (fun sv _ => n - (intOf sv).toNat)
        case atStart => exact ⟨0, Nat.zero_le _, rfl, HS.out⟩
        case round =>
          clear HS
          obtain ⟨s, hs, rfl, HR⟩ := hrel
          by_cases hsn : s < n
          · have i3 : (s : Int) < (n : Int) := by omega
            have ci := HR.out.1.cell s hsn
            have cg := HR.out.2.2.1.cell s hsn
            have fg := HR.out.2.2.1.froz s hsn
            have e0 : (TM.inR l (R.take j) s || (decide (s < s) && TM.inT l y s)) = TM.inR l (R.take j) s := by simp
            rw [e0] at cg
            obtain ⟨p, hp⟩ : ∃ p, TM.inR l (R.take j) s = p := ⟨_, rfl⟩
            obtain ⟨h, hh⟩ : ∃ h, TM.inT l y s = h := ⟨_, rfl⟩
            rw [hp] at cg
            rw [hh] at ci
            have HF := hid (show Row (wr.setCell ⟨g, s, none⟩ (.bool (p || h))) gi n (fun i => .bool (TM.inT l y i)) ∧ gi ≠ g ∧ Row (wr.setCell ⟨g, s, none⟩ (.bool (p || h))) g n (fun i => .bool (TM.inR l (R.take j) i || (decide (i < s + 1) && TM.inT l y i))) ∧ Below w.heap.size w (wr.setCell ⟨g, s, none⟩ (.bool (p || h))) ∧ w.heap.size ≤ g from
              ⟨HR.out.1.other _ _ _ (fun e => HR.out.2.1 e.symm), HR.out.2.1, (HR.out.2.2.1.set s hsn _).congr fun i hi => by
                by_cases e : i = s
                · subst e; rw [if_pos rfl, hp, hh, decide_eq_true (show i < i + 1 by omega)]; simp
                · rw [if_neg e]
                  by_cases e2 : i < s
                  · rw [decide_eq_true e2, decide_eq_true (show i < s + 1 by omega)]
                  · rw [decide_eq_false e2, decide_eq_false (show ¬ i < s + 1 by omega)], HR.out.2.2.2.1.setCell HR.out.2.2.2.2 _, HR.out.2.2.2.2⟩)
            clear hp hh e0 HR
            cases p <;> cases h
            all_goals
              simp only [Bool.or_true, Bool.or_false] at HF
              go_wp2
              go_roundw
              case rel => exact ⟨s + 1, by omega, by go_num, HF.out⟩
              case measure => simp [intOf]; omega
          · obtain rfl : n = s := by omega
            have HF := hid (show Row wr g n (fun i => .bool (TM.inR l (R.take (j + 1)) i)) ∧ Below w.heap.size w wr ∧ w.heap.size ≤ g from ⟨HR.out.2.2.1.congr fun i hi => by rw [HJ.out.2, decide_eq_true hi]; simp, HR.out.2.2.2⟩)
            clear HR
            go_wp2
            go_roundw
            case rel => exact ⟨j + 1, by omega, by go_num, HJ.out.1, HF.out⟩
            case measure => simp [intOf]; omega
      · clear hcR
        by_cases h1 : x < 0
        · have d1 : decide (x < 0) = true := decide_eq_true h1
          have HB := hid HR.out.2.2.1
          clear HR
          go_wp2
          go_ret
          exact ⟨rfl, HB.out⟩
        · have d1 : decide (x < 0) = false := decide_eq_false h1
          have d2 : decide ((n : Int) ≤ x) = true := decide_eq_true (by omega)
          have HB := hid HR.out.2.2.1
          clear HR
          go_wp2
          go_ret
          exact ⟨rfl, HB.out⟩
    · exfalso
      refine HIB.out fun x hx => ?_
      obtain ⟨i, hi, rfl⟩ := List.getElem_of_mem hx
      have hl0 := HH.out.2.2.1
      have hl1 := HH.out.1
      have := HR.out.1 i (by omega)
      rw [List.getD_eq_getElem?_getD, List.getElem?_eq_getElem hi, Option.getD_some] at this
      rw [hl1]; exact this
end Go.Proofs.Ytmjeoknndnbglaa.TB
