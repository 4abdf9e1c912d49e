/-
  The program's blocks, as a walk over the Go text.
-/
import Derived.Test.YthfneidbaiebhaaGA
namespace Go.Proofs.Ythfneidbaiebhaa.B
open Go.ChangeShapes Go.WideShapes Go.ChangeAt Go.RowKit Go.Maps
open Go.Sort hiding Below
set_option linter.unusedVariables false

theorem infoG : (Try.prog.info? 42).map (fun i => (i.zero, i.size, i.bytes)) = some (some (.agg #[.int .i64 0, .int .i64 0, .slice none 0 0]), 3, 40) := by kernel_rfl

set_option maxHeartbeats 6400000 in
set_option maxRecDepth 1000000 in
theorem gblocks_any (b o n cap : Nat) (l : List M.I) (hln : l.length = n) (hn : n ≤ 4096) (ok : ∀ i ∈ l, M.okI i) (hr : M.right l) (w : World) (hl : Ly w b o l) :
    Calls Try.prog 20 #[.slice (some ⟨b, o, none⟩) n cap] w fun e w' => ∃ g c, e = .returned (.tuple #[.slice (some ⟨g, 0, none⟩) (M.leads l).length c, .int .i64 0]) ∧ (∀ j, j < (M.leads l).length → BkOk w' g w'.heap.size j (M.blk l (lf l j))) ∧ g < w'.heap.size ∧ Below w.heap.size w w' := by
  obtain ⟨iB, hBi, hB0, hB1, hB2⟩ := info_parts infoG
  have hmm := @run_makeMap Try.prog
  have h0 : 0 < n := by rw [← hln]; exact ((M.right_iff l).1 hr).1.1
  have HRt := hid (right_any (some ⟨b, o, none⟩) n cap l hln (by omega) ok w hl.lies true (M.right_of.2 hr))
  have HC := hid (fun W (h : Ly W b o l) => gleaders_any b o n cap l hln hn ok hr W h)
  have HH := hid (And.intro hln (And.intro ok (And.intro hl hr)))
  have hbl : b < w.heap.size := hl.1
  clear hln ok hl hr
  go_enter Try.func20, Try.ntmps20
  go_wp2_with fail
  refine HRt.out.mono ?_
  rintro e w0 ⟨rfl, hb⟩
  have HB0 := hid hb
  have hw0 := hb.size
  clear hb HRt
  have HMk := hid (mk_made w0 l)
  replace HB0 := hid (HB0.out.alloc HB0.out.size (.map #[] 0))
  obtain ⟨mb, hmb⟩ : ∃ mb, w0.heap.size = mb := ⟨_, rfl⟩
  rw [hmb] at HMk hw0
  go_wp2_with fail
  generalize w0.alloc (.map #[] 0) = wa at *
  refine (HC.out _ (HH.out.2.2.1.far HB0.out hbl)).mono ?_
  rintro e w1 ⟨gl, rfl, hR, hb, hg⟩
  have hgl : mb < gl := Nat.lt_of_lt_of_le HMk.out.lt hg
  have hgl1 : gl < w1.heap.size := hR.lt
  have HM := hid (show Row w1 gl n (fun j => .bool (M.lead l j)) ∧ Mk w1 mb 0 l ∧ Below w.heap.size w w1 ∧ w1.ownsRow w1.heap.size 42 3 (.slice none 0 0) 0 [] from
    ⟨hR, HMk.out.below hb, (stp HB0 hb).out, World.ownsRow_nil _ _ _ _⟩)
  have hw1 : w.heap.size ≤ w1.heap.size := HM.out.2.2.1.size
  clear hR hb hg HC HMk HB0 hmm
  try rw [hmb]
  clear hmb
  go_wp2
  go_loopw [4, 18] (fun v i wr => ∃ k : Nat, k ≤ n ∧ i = .int .i64 k ∧ Hid (Row wr gl n (fun j => .bool (M.lead l j)) ∧ Mk wr mb k l ∧ Below w.heap.size w wr ∧ wr.ownsRow w1.heap.size 42 3 v (M.numb l k) (b3 l (M.leadsK l k)) ∧ w1.heap.size ≤ wr.heap.size)) (fun _ i _ => n - (intOf i).toNat)
  case atStart => exact ⟨0, Nat.zero_le _, rfl, HM.out.1, HM.out.2.1, HM.out.2.2.1, HM.out.2.2.2, Nat.le_refl _⟩
  case round =>
    clear HM
    obtain ⟨k, hk, rfl, HR⟩ := hrel
    by_cases hlt : k < n
    · have i2 : (k : Int) < (n : Int) := by omega
      have hkl : k < l.length := by rw [HH.out.1]; exact hlt
      have cl := HR.out.1.cell k hlt
      cases hd : M.lead l k with
      | false =>
        simp only [hd] at cl
        have HF := hid (show M.numb l (k + 1) = M.numb l k ∧ M.leadsK l (k + 1) = M.leadsK l k from
          ⟨by rw [M.numb_succ, hd]; simp, by rw [M.leadsK_succ, hd]; simp⟩)
        have HMs := hid (HR.out.2.1.skip hd)
        clear hd
        go_wp2
        go_roundw
        case rel => exact ⟨k + 1, by omega, by go_num, HR.out.1, HMs.out, HR.out.2.2.1, by rw [HF.out.1, HF.out.2]; exact HR.out.2.2.2.1, HR.out.2.2.2.2⟩
        case measure => simp [intOf]; omega
      | true =>
        simp only [hd] at cl
        obtain ⟨a, cc, hv, hab⟩ := own_slice HR.out.2.2.2.1
        rw [hv] at HR ⊢
        clear hv
        obtain ⟨m, hm⟩ : ∃ m, M.numb l k = m := ⟨_, rfl⟩
        have hmb2 : m ≤ 4096 := by rw [← hm]; have := numb_le l k; omega
        obtain ⟨t, ht⟩ : ∃ t, M.toOf l k = t := ⟨_, rfl⟩
        have HF := hid (show M.numb l (k + 1) = m + 1 ∧ M.leadsK l (k + 1) = M.leadsK l k ++ [k] ∧ M.toOf l k = t from
          ⟨by rw [M.numb_succ, hd, hm]; simp, by rw [M.leadsK_succ, hd]; simp, ht⟩)
        have HLa := hid (fun W h1 h2 => last_any b o n cap gl k l HH.out.1 hn hlt HH.out.2.1 HH.out.2.2.2 W h1 h2 t ht)
        rw [hm] at HR ⊢
        obtain ⟨D, hown, hD⟩ := HR.out.2.1
        have HD := hid (And.intro hown hD)
        have HPt := hid (fun (W' : World) (h' : W'.ownsMap Try.prog 3 (plainElem Try.prog 3) mb (k + 1) (D.put (ki k) (.lit (.int .i64 (m : Int))))) => mk_put hown hD (by rw [hm]; exact h'))
        have hkey := keyi (y := k) (by omega)
        clear hd hm ht hown hD
        go_wp2_with (at_mapUpdate; refine wpList_mapUpdate_own _ rfl _ _ _ 59 rfl 3 3 lawi Try.underlying59 _ mb k D rfl HD.out.1 (by unfold maxLen; omega) _ _ _ rfl rfl hkey _ [] (plainElem_int Try.underlying3 (wf64 (by omega) (by omega))) ?_)
        intro w3 hown3 hgrow3
        have hne : ∀ A, a = some A → some A.block ≠ some mb := fun A hA e => by injection e with e; have := (hab A hA).1; omega
        have HV := hid (show Row w3 gl n (fun j => .bool (M.lead l j)) ∧ Mk w3 mb (k + 1) l ∧ Below w.heap.size w w3 ∧ w3.ownsRow w1.heap.size 42 3 (.slice a m cc) m (b3 l (M.leadsK l k)) ∧ w1.heap.size ≤ w3.heap.size from
          ⟨HR.out.1.grown hgrow3 (by intro e; injection e with e; omega), HPt.out _ hown3, HR.out.2.2.1.grown hgrow3 HR.out.2.2.1.size (fun x hx => by injection hx with hx; omega), own_grown HR.out.2.2.2.1 hgrow3 hne, Nat.le_trans HR.out.2.2.2.2 hgrow3.size⟩)
        clear hown3 hgrow3 hne HR HD HPt hkey cl
        go_wp2_with fail
        refine (HLa.out _ (HH.out.2.2.1.far HV.out.2.2.1 hbl) HV.out.1).mono ?_
        rintro e w5 ⟨rfl, hb⟩
        have HV5 := hid (show Row w5 gl n (fun j => .bool (M.lead l j)) ∧ Mk w5 mb (k + 1) l ∧ Below w.heap.size w w5 ∧ w5.ownsRow w1.heap.size 42 3 (.slice a m cc) m (b3 l (M.leadsK l k)) ∧ w1.heap.size ≤ w5.heap.size from
          ⟨HV.out.1.below hb, HV.out.2.1.below hb, (stp (hid HV.out.2.2.1) hb).out, own_below HV.out.2.2.2.1 hb, Nat.le_trans HV.out.2.2.2.2 hb.size⟩)
        clear hb HV HLa
        go_wp2_with (at_builtin; refine wpList_append_lies _ rfl _ _ 36 rfl w1.heap.size 42 iB (.agg #[.int .i64 0, .int .i64 0, .slice none 0 0]) 3 40 Try.underlying36 hBi hB0 hB1 hB2 rfl (by decide) _ m _ rfl (HV5.out.2.2.2.1.alloc _) ⟨w5.heap.size, 0, none⟩ 1 1 [.int .i64 (k : Int), .int .i64 (t : Int), .slice none 0 0] rfl rfl ?c1 ?c2 (by decide) ?c3 ?c4 ?c5 (w5.heap.size + 1) ?c6 ?_)
        case c1 => exact World.news_of_block (fr := (0, 0)) (t := 42) (by have := heap_alloc_new w5 (Obj.cells #[.int .i64 (k : Int), .int .i64 (t : Int), .slice none 0 0] 42); simpa using this)
        case c2 => intro u hu; simp at hu; rcases hu with rfl | rfl | rfl <;> rfl
        case c3 => unfold maxLen; omega
        case c4 => omega
        case c5 => have := HV5.out.2.2.2.2; simp; omega
        case c6 => simp
        intro g cap2 w6 hown hgrow _ _
        have hb6 : Below w1.heap.size w5 w6 := ((Below.refl _ w5).alloc HV5.out.2.2.2.2 _).grown hgrow (by have := HV5.out.2.2.2.2; simp; omega) (fun k hk => (HV5.out.2.2.2.1.lt k hk).1)
        have HZ := hid (show Row w6 gl n (fun j => .bool (M.lead l j)) ∧ Mk w6 mb (k + 1) l ∧ Below w.heap.size w w6 ∧ w6.ownsRow w1.heap.size 42 3 (.slice (some ⟨g, 0, none⟩) (m + 1) cap2) (M.numb l (k + 1)) (b3 l (M.leadsK l (k + 1))) ∧ w1.heap.size ≤ w6.heap.size from
          ⟨HV5.out.1.far hb6 hgl1, HV5.out.2.1.far hb6 (by omega), HV5.out.2.2.1.trans (hb6.mono (by omega)), by rw [HF.out.1, HF.out.2.1, b3_snoc, HF.out.2.2]; exact hown, Nat.le_trans HV5.out.2.2.2.2 hb6.size⟩)
        clear hown hgrow hb6 HV5 HF
        go_wp2
        go_roundw
        case rel => exact ⟨k + 1, by omega, by go_num, HZ.out⟩
        case measure => simp [intOf]; omega
    · obtain rfl : k = n := by omega
      have hML : M.numb l k = (M.leads l).length := by rw [M.leads_len, HH.out.1]
      have hMp : 0 < (M.leads l).length := by
        have := M.numb_lt l (show 0 < k from h0) (M.lead_zero l)
        rw [← hML]; omega
      obtain ⟨m, hm⟩ : ∃ m, (M.leads l).length = m := ⟨_, rfl⟩
      rw [hm] at hML hMp
      rw [hML] at HR
      obtain ⟨g, cc, hv⟩ := own_form HR.out.2.2.2.1 hMp
      rw [hv] at HR ⊢
      clear hv
      have hgb := HR.out.2.2.2.1.lt g rfl
      have hmb2 : m ≤ 4096 := by rw [← hML]; have := numb_le l k; omega
      have HI := hid (show (∀ j, j < m → BkOk wr g wr.heap.size j (bq l 0 j)) ∧ Mk wr mb k l ∧ Below w.heap.size w wr ∧ g < wr.heap.size ∧ (∀ j, 0 ≤ j → j < m → wr.cell? ⟨g, j * 3 + 2, none⟩ = some (.slice none 0 0)) from
        ⟨fun j hj => by
          have hjl : j < (M.leadsK l k).length := by rw [M.leadsK_len, hML]; exact hj
          have hjL : j < (M.leads l).length := by rw [hm]; exact hj
          obtain ⟨e1, e2, e3⟩ := b3_get l (M.leadsK l k) j hjl
          have hlf : lf l j = (M.leadsK l k)[j] := by
            rw [lf_eq hjL]
            show (M.leadsK l l.length)[j] = _
            simp only [HH.out.1]
          have hc := fun i hi => HR.out.2.2.2.1.cellAt i hi
          have hb : bq l 0 j = ⟨lf l j, M.toOf l (lf l j), []⟩ := by unfold bq; rw [if_neg (by omega)]
          rw [hb, hlf]
          exact ⟨(hc (j * 3) (by omega)).trans e1, (hc (j * 3 + 1) (by omega)).trans e2, HR.out.2.2.2.1.frozenAt _, none, 0, (hc (j * 3 + 2) (by omega)).trans e3, .inl rfl, fun A hA => by cases hA⟩, HR.out.2.1, HR.out.2.2.1, hgb.2, fun j _ hj => (HR.out.2.2.2.1.cellAt (j * 3 + 2) (by omega)).trans (b3_get l (M.leadsK l k) j (by rw [M.leadsK_len, hML]; exact hj)).2.2⟩)
      have hgw : w1.heap.size ≤ g := hgb.1
      have hmg : mb ≠ g := by omega
      clear HR hML hgb
      have HM2 := hid hm
      clear hm
      go_wp2
      go_loopw [40] (fun iv wr => ∃ i : Nat, i ≤ m ∧ iv = .int .i64 i ∧ Hid ((∀ j, j < m → BkOk wr g wr.heap.size j (bq l i j)) ∧ Mk wr mb k l ∧ Below w.heap.size w wr ∧ g < wr.heap.size ∧ (∀ j, i ≤ j → j < m → wr.cell? ⟨g, j * 3 + 2, none⟩ = some (.slice none 0 0)))) (fun iv _ => m - (intOf iv).toNat)
      case atStart => exact ⟨0, Nat.zero_le _, rfl, HI.out⟩
      case round =>
        clear HI
        obtain ⟨i, him, rfl, HQ⟩ := hrel
        by_cases hil : i < m
        · have i3 : (i : Int) < (m : Int) := by omega
          have hiL : i < (M.leads l).length := by rw [HM2.out]; exact hil
          obtain ⟨f, hf⟩ : ∃ f, lf l i = f := ⟨_, rfl⟩
          have hfm := M.leads_mem.1 (List.getElem_mem hiL)
          rw [← lf_eq hiL, hf] at hfm
          obtain ⟨t, ht⟩ : ∃ t, M.toOf l f = t := ⟨_, rfl⟩
          have htl : t < l.length := by rw [← ht]; exact (M.toOf_spec HH.out.2.2.2 hfm.1).2.1
          obtain ⟨js, hjs⟩ : ∃ js, M.beh t (M.at0 l t) = js := ⟨_, rfl⟩
          have HN := hid (fun W h => gnext_ly b o k cap t l HH.out.1 hn htl HH.out.2.1 HH.out.2.2.2 W h js hjs)
          have HBq := hid (show bq l i i = ⟨f, t, []⟩ ∧ bq l (i + 1) i = ⟨f, t, js.map (M.numb l)⟩ ∧ ∀ j, j ≠ i → bq l (i + 1) j = bq l i j from
            ⟨by unfold bq; rw [if_neg (by omega), hf, ht], by unfold bq; rw [if_pos (by omega), hf]; unfold M.blk; rw [ht, hjs], fun j hj => by
              unfold bq
              by_cases e : j < i
              · rw [if_pos e, if_pos (by omega)]
              · rw [if_neg e, if_neg (by omega)]⟩)
          have hJ : ∀ y ∈ js, y < k ∧ M.lead l y = true := fun y hy => by
            rw [← hjs, ← ht] at hy
            have := M.blk_next HH.out.2.2.2 HH.out.2.1 hfm.1 hfm.2 hy
            rw [← HH.out.1]; exact ⟨this.1, this.2.1⟩
          have hlen : js.length ≤ 2 := by rw [← hjs]; exact M.beh_len _ _
          obtain ⟨q0, hq0⟩ : ∃ q0, js.length = q0 := ⟨_, rfl⟩
          rw [hq0] at HN hlen
          have HNb := hid (fun a ca W h1 h2 => numbers_any mb k l a q0 ca js hq0 hlen hn hJ W h1 h2)
          have HBi := hid (by have := HQ.out.1 i hil; rw [HBq.out.1] at this; exact this : BkOk wr g wr.heap.size i ⟨f, t, []⟩)
          obtain ⟨c0, c1, c2, a3, cc3, _, _, _⟩ := HBi.out
          simp only at c0 c1
          have HQ0 := hid hq0
          clear hjs hf ht hfm htl hJ hq0
          go_wp2_with fail
          refine (HN.out _ (HH.out.2.2.1.far HQ.out.2.2.1 hbl)).mono ?_
          rintro e w3 ⟨a, ca, rfl, hnx, hfr, hb⟩
          have hgo : g < wr.heap.size := HQ.out.2.2.2.1
          have HI := hid (show (∀ j, j < m → BkOk w3 g w3.heap.size j (bq l i j)) ∧ Mk w3 mb k l ∧ Below w.heap.size w w3 ∧ g < w3.heap.size ∧ (∀ j, i ≤ j → j < m → w3.cell? ⟨g, j * 3 + 2, none⟩ = some (.slice none 0 0)) ∧ Nx w3 a js from
            ⟨fun j hj => (HQ.out.1 j hj).next hb hgo, HQ.out.2.1.below hb, (stp (hid HQ.out.2.2.1) hb).out, Nat.lt_of_lt_of_le hgo hb.size, fun j h1 h2 => (hb.cell (p := ⟨g, j * 3 + 2, none⟩) hgo).trans (HQ.out.2.2.2.2 j h1 h2), hnx⟩)
          clear hb hnx hfr HN HQ HBi c0 c1 c2 hgo
          go_wp2_with fail
          refine (HNb.out _ _ _ HI.out.2.1 HI.out.2.2.2.2.2).mono ?_
          rintro e w4 ⟨a', c', rfl, hnx, hfr, hb⟩
          have hgo : g < w3.heap.size := HI.out.2.2.2.1
          have HJ := hid (show (∀ j, j < m → BkOk w4 g w4.heap.size j (bq l i j)) ∧ Mk w4 mb k l ∧ Below w.heap.size w w4 ∧ g < w4.heap.size ∧ (∀ j, i ≤ j → j < m → w4.cell? ⟨g, j * 3 + 2, none⟩ = some (.slice none 0 0)) ∧ Nx w4 a' (js.map (M.numb l)) ∧ (∀ A, a' = some A → A.block < w4.heap.size ∧ A.block ≠ g) from
            ⟨fun j hj => (HI.out.1 j hj).next hb hgo, HI.out.2.1.below hb, (stp (hid HI.out.2.2.1) hb).out, Nat.lt_of_lt_of_le hgo hb.size, fun j h1 h2 => (hb.cell (p := ⟨g, j * 3 + 2, none⟩) hgo).trans (HI.out.2.2.2.2.1 j h1 h2), hnx, fun A hA => ⟨(hfr A hA).2, by have := (hfr A hA).1; omega⟩⟩)
          clear hb hnx hfr HNb HI hgo
          have HBi := hid (by have := HJ.out.1 i hil; rw [HBq.out.1] at this; exact this : BkOk w4 g w4.heap.size i ⟨f, t, []⟩)
          have d2 := HJ.out.2.2.2.2.1 i (Nat.le_refl _) hil
          have f2 := HBi.out.2.2.1
          have HZ := hid (show (∀ j, j < m → BkOk (w4.setCell ⟨g, i * 3 + 2, none⟩ (.slice a' q0 c')) g (w4.setCell ⟨g, i * 3 + 2, none⟩ (.slice a' q0 c')).heap.size j (bq l (i + 1) j)) ∧ Mk (w4.setCell ⟨g, i * 3 + 2, none⟩ (.slice a' q0 c')) mb k l ∧ Below w.heap.size w (w4.setCell ⟨g, i * 3 + 2, none⟩ (.slice a' q0 c')) ∧ g < (w4.setCell ⟨g, i * 3 + 2, none⟩ (.slice a' q0 c')).heap.size ∧ (∀ j, i + 1 ≤ j → j < m → (w4.setCell ⟨g, i * 3 + 2, none⟩ (.slice a' q0 c')).cell? ⟨g, j * 3 + 2, none⟩ = some (.slice none 0 0)) from
            ⟨fun j hj => by
              rw [show (w4.setCell ⟨g, i * 3 + 2, none⟩ (.slice a' q0 c')).heap.size = w4.heap.size by simp]
              by_cases e : j = i
              · subst e
                rw [HBq.out.2.1]
                refine ⟨?_, ?_, by rw [World.frozen?_setCell]; exact f2, a', c', ?_, HJ.out.2.2.2.2.2.1.off (fun A hA => (HJ.out.2.2.2.2.2.2 A hA).2), HJ.out.2.2.2.2.2.2⟩
                · rw [World.cell?_setCell_other _ _ _ _ (by intro e; injection e with _ e; omega)]; exact HBi.out.1
                · rw [World.cell?_setCell_other _ _ _ _ (by intro e; injection e with _ e; omega)]; exact HBi.out.2.1
                · rw [World.cell?_setCell_same _ _ _ d2]; simp only [List.length_map, HQ0.out]
              · rw [HBq.out.2.2 j e]
                exact (HJ.out.1 j hj).off (by omega) (by omega) (by omega), HJ.out.2.1.off hmg, HJ.out.2.2.1.setCell (by simp; omega) _, by simpa using HJ.out.2.2.2.1,
              fun j h1 h2 => by rw [World.cell?_setCell_other _ _ _ _ (by intro e; injection e with _ e; omega)]; exact HJ.out.2.2.2.2.1 j (by omega) h2⟩)
          clear HJ HBi
          go_wp2
          go_roundw
          case rel => exact ⟨i + 1, by omega, by go_num, HZ.out⟩
          case measure => simp [intOf]; omega
        · obtain rfl : i = m := by omega
          have HF := hid (show ∀ j, j < i → BkOk wr g wr.heap.size j (M.blk l (lf l j)) from fun j hj => by
            have := HQ.out.1 j hj
            unfold bq at this
            rw [if_pos hj] at this
            exact this)
          go_wp2
          go_ret2
          exact ⟨g, cc, by rw [HM2.out]; rfl, fun j hj => HF.out j (by rw [← HM2.out]; exact hj), HQ.out.2.2.2.1, HQ.out.2.2.1⟩
end Go.Proofs.Ythfneidbaiebhaa.B
