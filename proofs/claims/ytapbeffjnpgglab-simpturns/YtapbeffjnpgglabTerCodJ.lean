/-
  The program's only and Only of layer 11, as walks over the Go text.
-/
import Derived.Test.YtapbeffjnpgglabTerCodI
import Derived.Test.YtapbeffjnpgglabT3
namespace Go.Proofs.Ytapbeffjnpgglab.TM
set_option linter.unusedVariables false
/-- what is left of the first k places -/
def onK (L : List N) (P : Nat → Bool) (k : Nat) : List N := (lsP P k).map fun i => moved (nat0 L i) (cnP P)
theorem onK_len (L : List N) (P : Nat → Bool) (k : Nat) : (onK L P k).length = cnP P k := by unfold onK; rw [List.length_map]; rfl
theorem onK_yes {L : List N} {P : Nat → Bool} {k : Nat} (h : P k = true) : onK L P (k + 1) = onK L P k ++ [moved (nat0 L k) (cnP P)] := by
  unfold onK; rw [lsP_succ, if_pos h, List.map_append]; rfl
theorem onK_no {L : List N} {P : Nat → Bool} {k : Nat} (h : P k = false) : onK L P (k + 1) = onK L P k := by
  unfold onK; rw [lsP_succ, if_neg (by rw [h]; simp), List.append_nil]
theorem cnP_le (P : Nat → Bool) (k : Nat) : cnP P k ≤ k := by
  unfold cnP; exact Nat.le_trans (List.length_filter_le _ _) (by simp)
end Go.Proofs.Ytapbeffjnpgglab.TM
namespace Go.Proofs.Ytapbeffjnpgglab.TB
open Go.ChangeShapes Go.WideShapes Go.ChangeAt Go.RowKit
open Go.Sort hiding Below
set_option linter.unusedVariables false
set_option maxRecDepth 100000

/-- where things lie within only's first loop -/
structure OnSt (w W : World) (base g1 g2 n : Nat) (a : Option Addr) (c : Nat) (L : List TM.N) (P : Nat → Bool) (k : Nat) (V : Nat → Nat) (l : List TM.N) (q : Nat) : Prop where
  own : OwnN W base a q c l
  r1 : Row W g1 n (fun j => .int .i64 ((V j : Nat) : Int))
  r2 : Row W g2 n (fun j => .bool (P j))
  b1 : g1 < base
  b2 : g2 < base
  b0 : w.heap.size ≤ g1
  bb : base ≤ W.heap.size
  bl : Below w.heap.size w W
theorem OnSt.below {w W W' : World} {base g1 g2 n : Nat} {a : Option Addr} {c : Nat} {L : List TM.N} {P : Nat → Bool} {k : Nat} {V : Nat → Nat} {l : List TM.N} {q : Nat} (h : OnSt w W base g1 g2 n a c L P k V l q) (hb : Below W.heap.size W W') : OnSt w W' base g1 g2 n a c L P k V l q :=
  ⟨h.own.below hb, h.r1.below hb, h.r2.below hb, h.b1, h.b2, h.b0, Nat.le_trans h.bb hb.size, h.bl.trans (hb.mono h.bl.size)⟩
theorem OwnN.offset {W : World} {base n cap g j : Nat} {a : Option Addr} {l : List TM.N} {v : Value} (h : OwnN W base a n cap l) (hg : g < base) : OwnN (W.setCell ⟨g, j, none⟩ v) base a n cap l :=
  h.grown (row := some g) ⟨rfl, rfl, rfl, by simp, fun k hk hne => Below.heap_setCell _ _ _ _ (fun e => hne (by rw [e]))⟩ (fun A hA => by have := (h.at A hA).1; intro e; have := Option.some.inj e; omega)
theorem OnSt.mark {w W : World} {base g1 g2 n : Nat} {a : Option Addr} {c : Nat} {L : List TM.N} {P : Nat → Bool} {k : Nat} {V : Nat → Nat} {l : List TM.N} {q : Nat} (h : OnSt w W base g1 g2 n a c L P k V l q) (hne : g1 ≠ g2) (y : Nat) (hy : y < n) (z : Nat) : OnSt w (W.setCell ⟨g1, y, none⟩ (.int .i64 (z : Int))) base g1 g2 n a c L P k (fun j => if j = y then z else V j) l q :=
  ⟨h.own.offset h.b1, (h.r1.set y hy _).congr (fun j hj => by split <;> rfl), h.r2.other _ _ _ hne, h.b1, h.b2, h.b0, by simpa using h.bb, h.bl.setCell h.b0 _⟩
theorem OnSt.app {w W W' : World} {base g1 g2 n : Nat} {a : Option Addr} {c : Nat} {L : List TM.N} {P : Nat → Bool} {k : Nat} {V : Nat → Nat} {l : List TM.N} {q : Nat} (h : OnSt w W base g1 g2 n a c L P k V l q) {a' : Option Addr} {c' : Nat} {l' : List TM.N} {q' : Nat} (hO : OwnN W' base a' q' c' l') (hg : W.grownBy W' (blk a)) : OnSt w W' base g1 g2 n a' c' L P k V l' q' := by
  have hbl : ∀ b, blk a = some b → base ≤ b := fun b hb => by
    obtain ⟨A, e1, e2⟩ := blk_at hb
    have := (h.own.at A e1).1
    omega
  refine ⟨hO, h.r1.grown hg ?_, h.r2.grown hg ?_, h.b1, h.b2, h.b0, Nat.le_trans h.bb hg.size, h.bl.grown hg h.bl.size (fun b hb => ?_)⟩
  · intro e; have := hbl g1 e.symm; have := h.b1; omega
  · intro e; have := hbl g2 e.symm; have := h.b2; omega
  · have := hbl b hb; have := h.b1; have := h.b0; omega

set_option maxHeartbeats 6400000 in
theorem conly (A : Option Addr) (n cap : Nat) (L : List TM.N) (hln : L.length = n) (hL : TM.Row L) (B : Option Addr) (m c : Nat) (R : List Int) (hlm : R.length = m) (hm : m ≤ 65536) (hin : inB L R) (w : World) (hl : LiesN w A L) (hR : LiesI w B R) :
    Calls Try.prog 35 #[.slice A n cap, .slice B m c] w fun e w' => ∃ a c b d, e = .returned (.tuple #[.slice a (TM.onlyL L R).length c, .slice b m d]) ∧ LiesN w' a (TM.onlyL L R) ∧ RowO w' b m (fun j => .int .i64 ((TM.cnP (TM.inR L R) (R.getD j 0).toNat : Nat) : Int)) ∧ Below w.heap.size w w' := by
  have hn : n ≤ 65536 := by rw [← hln]; exact hL.1
  obtain ⟨i0, hi, hz0, hz1, hz2⟩ := info_parts infoi
  have HT := hid (fun W (h1 : LiesN W A L) (h2 : LiesI W B R) => ctrees A n cap L hln hL B m c R hlm hm hin W h1 h2)
  have HPp := hid (fun q j => TM.inR_part hL R (q := q) (j := j))
  have HPr := hid (fun x (hx : x ∈ R) => TM.inR_root (l := L) hx)
  have HE := hid (show TM.onlyL L R = TM.onK L (TM.inR L R) n from by unfold TM.onlyL TM.onK; rw [hln])
  obtain ⟨P, hP⟩ : ∃ P, TM.inR L R = P := ⟨_, rfl⟩
  rw [hP] at HT HPp HPr HE ⊢
  have HH := hid (And.intro hln (And.intro hlm (And.intro hl (And.intro hR (And.intro hL hin)))))
  clear hln hL hlm hin hl hR hP
  go_enter Try.func35, Try.ntmps35
  go_wp2_with (at_make; refine wpList_make_full _ rfl _ _ 26 rfl w.heap.size 3 i0 (.int .i64 0) 1 Try.underlying26 hi hz0 hz1 .i64 .i64 n n n rfl rfl rfl rfl ?c1 ?c2 (Nat.le_refl _) ?_)
  case c1 => rw [hz2]; omega
  case c2 => unfold maxLen; omega
  intro wm hown hgrow
  have HB0 := hid (show Below w.heap.size w wm from (Below.refl _ _).grown hgrow (Nat.le_refl _) (by intro k hk; cases hk))
  have HN := hid (show Row wm w.heap.size n (fun _ => .int .i64 0) from Row.of_own hown (fun j hj => made_get (.int .i64 0) n j hj) (hown.lt _ rfl).2)
  clear hown hgrow
  go_wp2_with (go_at_call 46; refine (HT.out _ (HH.out.2.2.1.below HB0.out) (HH.out.2.2.2.1.below HB0.out)).mono ?_; rintro e w2 ⟨g2, rfl, hR2, hb, hg2⟩; have HS := hid (show OnSt w w2 w2.heap.size w.heap.size g2 n none 0 L P 0 (fun _ => 0) [] 0 from ⟨OwnN.nil _ _, HN.out.below hb, hR2, Nat.lt_of_lt_of_le HN.out.lt hb.size, hR2.lt, Nat.le_refl _, Nat.le_refl _, HB0.out.trans (hb.mono HB0.out.size)⟩); have hne : w.heap.size ≠ g2 := (by have := HN.out.lt; omega); clear hR2 hb hg2 HB0 HN HT)
  go_loopw [6, 20] (fun v i wr => ∃ (k : Nat) (a : Option Addr) (c' : Nat), k ≤ n ∧ i = .int .i64 k ∧ v = .slice a (TM.cnP P k) c' ∧ Hid (OnSt w wr w2.heap.size w.heap.size g2 n a c' L P k (fun j => if j < k ∧ P j = true then TM.cnP P j else 0) (TM.onK L P k) (TM.cnP P k))) (fun _ i _ => n - (intOf i).toNat)
  case atStart => exact ⟨0, none, 0, Nat.zero_le _, rfl, rfl, HS.out.own, HS.out.r1.congr (fun j hj => by rw [if_neg (by omega)]), HS.out.r2, HS.out.b1, HS.out.b2, HS.out.b0, HS.out.bb, HS.out.bl⟩
  case round =>
    clear HS
    obtain ⟨k, a, c', hk, rfl, rfl, HR⟩ := hrel
    by_cases hlt : k < n
    · have i2 : (k : Int) < (n : Int) := by omega
      have cP := HR.out.r2.cell k hlt
      obtain ⟨pk, hpk⟩ : ∃ pk, P k = pk := ⟨_, rfl⟩
      rw [hpk] at cP
      have hcs := TM.cnP_succ P k
      cases pk with
      | false =>
        have HZ := hid (show OnSt w wr w2.heap.size w.heap.size g2 n a c' L P (k + 1) (fun j => if j < k + 1 ∧ P j = true then TM.cnP P j else 0) (TM.onK L P (k + 1)) (TM.cnP P (k + 1)) from by
          rw [TM.onK_no hpk, hcs, hpk]
          simp only [Bool.false_eq_true, if_false, Nat.add_zero]
          exact ⟨HR.out.own, HR.out.r1.congr (fun j hj => by
            by_cases e : j = k
            · subst e; rw [hpk]; simp
            · by_cases e2 : j < k
              · simp [e2, show j < k + 1 by omega]
              · simp [e2, show ¬ j < k + 1 by omega]), HR.out.r2, HR.out.b1, HR.out.b2, HR.out.b0, HR.out.bb, HR.out.bl⟩)
        rw [hpk] at hcs
        simp only [Bool.false_eq_true, if_false, Nat.add_zero] at hcs
        have HC := hid hcs
        clear hpk hcs HR
        go_wp2
        go_roundw
        case rel => exact ⟨k + 1, a, c', by omega, by go_num, by rw [HC.out], HZ.out⟩
        case measure => simp [intOf]; omega
      | true =>
        have hkl : k < L.length := by rw [HH.out.1]; exact hlt
        have hmay := HH.out.2.2.2.2.1.2 k hkl
        obtain ⟨b, o, rfl, hly⟩ := HH.out.2.2.1.ly (by omega)
        rw [hpk, if_pos rfl] at hcs
        have hcn := TM.cnP_le P k
        have HM := hid (HR.out.mark hne k hlt (TM.cnP P k))
        obtain ⟨q0, q1, q2, q3⟩ := (hly.below HM.out.bl).2 k hkl
        have c1 := HR.out.r1.cell k hlt
        have f1 := HR.out.r1.froz k hlt
        have h0x := TM.nat0_eq hkl
        obtain ⟨x, hx⟩ : ∃ x, L[k] = x := ⟨_, rfl⟩
        rw [hx] at q0 q1 q2 q3 h0x
        clear hx hly
        rw [h0x] at hmay
        have HMv := hid (show TM.moved x (fun j => if j = k then TM.cnP P k else if j < k ∧ P j = true then TM.cnP P j else 0) = TM.moved x (TM.cnP P) from TM.moved_congr (fun j hj => by
          have hjk := TM.parts_lt hmay hj
          rw [if_neg (by omega), if_pos ⟨hjk, HPp.out k j hkl hpk (by rw [h0x]; exact hj)⟩]))
        have HCl := hid (crenamed x k hmay w.heap.size n n (by omega) hn _ _ HM.out.r1)
        rw [HMv.out] at HCl
        have HO := hid (TM.onK_yes (L := L) hpk)
        rw [h0x] at HO
        obtain ⟨y, hy⟩ : ∃ y, TM.moved x (TM.cnP P) = y := ⟨_, rfl⟩
        rw [hy] at HCl HO
        have HV := hid (show ∀ j, (if j = k then TM.cnP P k else if j < k ∧ P j = true then TM.cnP P j else 0) = (if j < k + 1 ∧ P j = true then TM.cnP P j else 0) from fun j => by
          by_cases e : j = k
          · subst e; simp [hpk]
          · rw [if_neg e]
            by_cases e2 : j < k
            · simp [e2, show j < k + 1 by omega]
            · simp [e2, show ¬ j < k + 1 by omega])
        have HC := hid hcs
        clear hpk hcs HR hmay HMv h0x hy
        go_wp2_with fail
        refine HCl.out.mono ?_
        rintro e w4 ⟨rfl, hb⟩
        have HM2 := hid (HM.out.below hb)
        clear hb HM HCl q0 q1 q2 q3 c1 f1 cP
        go_wp2_with (at_builtin; refine wpList_append_node (by rfl) _ _ rfl w2.heap.size (TM.cnP P k) c' 1 w4.heap.size 0 a (TM.onK L P k) y rfl (HM2.out.own.below (al _ _)) rfl (ly_one w4 y) (by omega) (Nat.le_trans HM2.out.bb (al _ _).size) ?_)
        intro g cap' w5 hown hgr hgo
        have HZ := hid ((HM2.out.below (al w4 _)).app hown hgr)
        clear hown hgr hgo HM2
        go_wp2
        go_roundw
        case rel => exact ⟨k + 1, some ⟨g, 0, none⟩, cap', by omega, by go_num, by rw [HC.out], by rw [HO.out, HC.out]; exact HZ.out.own, HZ.out.r1.congr (fun j hj => by rw [HV.out j]), HZ.out.r2, HZ.out.b1, HZ.out.b2, HZ.out.b0, HZ.out.bb, HZ.out.bl⟩
        case measure => simp [intOf]; omega
    · obtain rfl : k = n := by omega
      have HF := hid (show LiesN wr a (TM.onlyL L R) ∧ (TM.onlyL L R).length = TM.cnP P k from ⟨by rw [HE.out]; exact HR.out.own.lies, by rw [HE.out, TM.onK_len]⟩)
      have HR1 := hid (And.intro (HR.out.r1.congr (U := fun j => .int .i64 ((if P j = true then TM.cnP P j else 0 : Nat) : Int)) (fun j hj => by
        by_cases e : P j = true
        · simp [e, hj]
        · simp [e])) HR.out.bl)
      rw [← HF.out.2]
      clear HR
      obtain ⟨wo, rfl⟩ : ∃ x, x = wr := ⟨_, rfl⟩
      go_wp2_with (at_make; refine wpList_make_full _ rfl _ _ 26 rfl wo.heap.size 3 i0 (.int .i64 0) 1 Try.underlying26 hi hz0 hz1 .i64 .i64 m m m rfl rfl rfl rfl ?c1 ?c2 (Nat.le_refl _) ?_)
      case c1 => rw [hz2]; omega
      case c2 => unfold maxLen; omega
      intro wn hown hgrow
      have hbn : Below wo.heap.size wo wn := (Below.refl _ _).grown hgrow (Nat.le_refl _) (by intro k hk; cases hk)
      have HN := hid (show Row wn wo.heap.size m (fun _ => .int .i64 0) ∧ Below wo.heap.size wo wn from ⟨Row.of_own hown (fun j hj => made_get (.int .i64 0) m j hj) (hown.lt _ rfl).2, hbn⟩)
      clear hown hgrow hbn
      go_wp2
      go_loopw [46] (fun iv wr => ∃ q : Nat, q ≤ m ∧ iv = .int .i64 q ∧ Hid (Row wr wo.heap.size m (fun j => .int .i64 ((if j < q then TM.cnP P (R.getD j 0).toNat else 0 : Nat) : Int)) ∧ Below wo.heap.size wo wr)) (fun iv _ => m - (intOf iv).toNat)
      case atStart => exact ⟨0, Nat.zero_le _, rfl, HN.out.1.congr (fun j hj => by rw [if_neg (by omega)]; rfl), HN.out.2⟩
      case round =>
        clear HN
        obtain ⟨q, hq, rfl, HQ⟩ := hrel
        by_cases hqm : q < m
        · have i5 : (q : Int) < (m : Int) := by omega
          have hql : q < R.length := by rw [HH.out.2.1]; exact hqm
          have hRw := (HH.out.2.2.2.1.below HR1.out.2).below HQ.out.2
          obtain ⟨b, o, rfl, hbl, hcs⟩ := hRw.at (by omega)
          have q0 := hcs q hql
          have hy2 := HH.out.2.2.2.2.2 R[q] (List.getElem_mem hql)
          have hyP := HPr.out R[q] (List.getElem_mem hql)
          have hgd : R.getD q 0 = R[q] := by rw [List.getD_eq_getElem?_getD, List.getElem?_eq_getElem hql]; rfl
          obtain ⟨y, hy⟩ : ∃ y, R[q] = y := ⟨_, rfl⟩
          rw [hy] at q0 hy2 hyP hgd
          obtain ⟨y, rfl⟩ : ∃ z : Nat, y = z := ⟨y.toNat, by omega⟩
          rw [Int.toNat_natCast] at hyP
          have hyn : y < k := by have := HH.out.1; omega
          have i6 : (y : Int) < (k : Int) := by omega
          have cM := (HR1.out.1.below HQ.out.2).cell y hyn
          simp only [hyP, if_true] at cM
          have cO := HQ.out.1.cell q hqm
          have fO := HQ.out.1.froz q hqm
          have HZ := hid (show Row (wr.setCell ⟨wo.heap.size, q, none⟩ (.int .i64 ((TM.cnP P y : Nat) : Int))) wo.heap.size m (fun j => .int .i64 ((if j < q + 1 then TM.cnP P (R.getD j 0).toNat else 0 : Nat) : Int)) ∧ Below wo.heap.size wo (wr.setCell ⟨wo.heap.size, q, none⟩ (.int .i64 ((TM.cnP P y : Nat) : Int))) from
            ⟨(HQ.out.1.set q hqm _).congr (fun j hj => by
              by_cases e : j = q
              · subst e; rw [if_pos rfl, if_pos (by omega), hgd, Int.toNat_natCast]
              · rw [if_neg e]
                by_cases e2 : j < q
                · rw [if_pos e2, if_pos (by omega)]
                · rw [if_neg e2, if_neg (by omega)]), HQ.out.2.setCell (Nat.le_refl _) _⟩)
          clear hy hcs hbl hRw hy2 hyP hgd HQ
          go_wp2
          go_roundw
          case rel => exact ⟨q + 1, by omega, by go_num, HZ.out⟩
          case measure => simp [intOf]; omega
        · obtain rfl : q = m := by omega
          have HZ := hid (show LiesN wr a (TM.onlyL L R) ∧ RowO wr (some ⟨wo.heap.size, 0, none⟩) q (fun j => .int .i64 ((TM.cnP P (R.getD j 0).toNat : Nat) : Int)) ∧ Below w.heap.size w wr from ⟨HF.out.1.below HQ.out.2, (HQ.out.1.congr (fun j hj => by rw [if_pos hj])).o, HR1.out.2.trans (HQ.out.2.mono HR1.out.2.size)⟩)
          clear HQ HR1 HF
          go_wp2
          go_ret2
          exact ⟨a, c', some ⟨wo.heap.size, 0, none⟩, q, rfl, HZ.out⟩

theorem conly_any {A : Option Addr} {n cap : Nat} {L : List TM.N} (hln : L.length = n) (hn : n ≤ 9223372036854775807) (ok : ∀ x ∈ L, TM.okN x) (hrb : TM.rowB L = false) (B : Option Addr) (m c : Nat) (w : World) (hl : LiesN w A L) :
    Calls Try.prog 34 #[.slice A n cap, .slice B m c] w fun e w' => e = .returned (.int .i64 3) ∧ Below w.heap.size w w' := casked_bad A n cap L hln hn ok hrb _ w hl

set_option maxHeartbeats 1600000 in
theorem con_no (A : Option Addr) (n cap : Nat) (B : Option Addr) (m c : Nat) (q : Int) (hq : q ≠ 0) (w : World) (HA : Calls Try.prog 34 #[.slice A n cap, .slice B m c] w fun e w' => e = .returned (.int .i64 q) ∧ Below w.heap.size w w') :
    Calls Try.prog 21 #[.slice A n cap, .slice B m c] w fun e w' => ∃ a c b d, e = .returned (.tuple #[.slice a 0 c, .slice b 0 d, .int .i64 q]) ∧ Below w.heap.size w w' := by
  have HX := hid HA
  have d1 : (q == 0) = false := beq_eq_false_iff_ne.2 hq
  have d2 : (q != 0) = true := bne_iff_ne.2 hq
  clear HA hq
  go_enter Try.func21, Try.ntmps21
  go_wp2_with fail
  refine HX.out.mono ?_
  rintro e w1 ⟨rfl, hb⟩
  have HB := hid hb
  clear hb HX
  go_wp2
  refine bodyPost_ret (results_tmp3 rfl _ _ _) rfl ?_
  exact ⟨none, 0, none, 0, rfl, HB.out⟩
theorem con_bad : OnBad := fun A n cap L B m cap' R hln hlm hn ok hrb w hl hR => con_no A n cap B m cap' 3 (by omega) w (casked_bad A n cap L hln hn ok hrb _ w hl)
theorem con_out : OnOut := fun A n cap L B m cap' R hln hlm hm ok hL hin hRb w hl hR => con_no A n cap B m cap' 2 (by omega) w (casked A n cap L hln ok hL B m cap' R hlm hm 2 (.inr ⟨hin, rfl⟩) w hl hR)
set_option maxHeartbeats 1600000 in
theorem con : OnOk := by
  intro A n cap L B m cap' R hln hlm hm ok hL hin w hl hR
  have HA := hid (casked A n cap L hln ok hL B m cap' R hlm hm 0 (.inl ⟨hin, rfl⟩) w hl hR)
  have HO := hid (fun W (h1 : LiesN W A L) (h2 : LiesI W B R) => conly A n cap L hln hL B m cap' R hlm hm hin W h1 h2)
  have HL := hid (And.intro hl hR)
  obtain ⟨z, hz⟩ : ∃ z, (TM.onlyL L R).length = z := ⟨_, rfl⟩
  rw [hz] at HO ⊢
  clear hln hlm hm ok hL hin hl hR hz
  go_enter Try.func21, Try.ntmps21
  go_wp2_with fail
  refine HA.out.mono ?_
  rintro e w1 ⟨rfl, hb⟩
  have HB := hid hb
  clear hb HA
  go_wp2_with fail
  refine (HO.out _ (HL.out.1.below HB.out) (HL.out.2.below HB.out)).mono ?_
  rintro e w2 ⟨a, c, b, d, rfl, h1, h2, hb⟩
  have HZ := hid (And.intro h1 (And.intro h2 (HB.out.trans (hb.mono HB.out.size))))
  clear h1 h2 hb HO HL HB
  go_wp2
  refine bodyPost_ret (results_tmp3 rfl _ _ _) rfl ?_
  exact ⟨a, c, b, d, rfl, HZ.out⟩
end Go.Proofs.Ytapbeffjnpgglab.TB
