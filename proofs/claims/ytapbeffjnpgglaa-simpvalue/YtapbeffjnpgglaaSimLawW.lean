/-
  The walk of the statement SimpValue, over what the program's own functions answer.
-/
import Derived.Test.YtapbeffjnpgglaaSimLawP
import Derived.Test.YtapbeffjnpgglaaSimPool
import Derived.Test.YtapbeffjnpgglaaSimRefA
import Derived.Test.YtapbeffjnpgglaaT3
import Derived.Lib.QuietBelow
import Derived.Deep.RegionHeldLaw
namespace Go.Proofs.Ytapbeffjnpgglaa.TB
open Go.ChangeShapes Go.WideShapes Go.ChangeAt Go.RowKit
open Go.Sort hiding Below
set_option linter.unusedVariables false
set_option maxRecDepth 100000

set_option maxHeartbeats 1600000 in
set_option maxRecDepth 100000 in
theorem sval_big (hAw : Aw12) (A : Option Addr) (n cap : Nat) (r : List Int) (op : Int) (hn : 25 < n) (w : World) :
    Calls Try.prog 4 #[.slice A n cap, .agg (RB.enc r), .int .i64 op] w fun e w' => e = .returned (.bool true) ∧ Below w.heap.size w w' := by
  have hd : decide (25 < (n : Int)) = true := decide_eq_true (by omega)
  have hz : ((n : Int) == 0) = false := beq_eq_false_iff_ne.2 (by omega)
  have HB := hid (al w (.cells (RB.enc r) 43))
  have HAw := hid hAw
  clear hn hAw
  go_enter Try.func4, Try.ntmps4
  go_wp2_with fail
  refine (HAw.out _).mono ?_
  rintro e w1 ⟨rfl, hb⟩
  replace HB := stp HB hb
  clear hb
  go_wp2_with fail
  refine (HAw.out _).mono ?_
  rintro e w2 ⟨rfl, hb⟩
  replace HB := stp HB hb
  clear hb
  go_wp2
  go_ret
  exact ⟨rfl, HB.out⟩
set_option maxHeartbeats 1600000 in
set_option maxRecDepth 100000 in
theorem sval_bad (hAw : Aw12) (A : Option Addr) (n cap : Nat) (r : List Int) (op : Int) (l : List TM.N) (hln : l.length = n) (hn : n ≤ 25) (h0 : 0 < n) (ok : ∀ x ∈ l, TM.okN x) (hr : TM.rowB l = false) (w : World) (hl : LiesN w A l) :
    Calls Try.prog 4 #[.slice A n cap, .agg (RB.enc r), .int .i64 op] w fun e w' => e = .returned (.bool true) ∧ Below w.heap.size w w' := by
  have hd : decide (25 < (n : Int)) = false := decide_eq_false (by omega)
  have hz : ((n : Int) == 0) = false := beq_eq_false_iff_ne.2 (by omega)
  have HB := hid (al w (.cells (RB.enc r) 43))
  have HAw := hid hAw
  have HRt := hid (fun W (h : LiesN W A l) => rrow_any A n cap l hln (by omega) ok W h false hr)
  have HL := hid hl
  clear hn hAw hln ok hr hl h0
  go_enter Try.func4, Try.ntmps4
  go_wp2_with fail
  refine (HAw.out _).mono ?_
  rintro e w1 ⟨rfl, hb⟩
  replace HB := stp HB hb
  clear hb
  go_wp2_with fail
  refine (HRt.out _ (HL.out.below HB.out)).mono ?_
  rintro e w2 ⟨rfl, hb⟩
  replace HB := stp HB hb
  clear hb
  go_wp2_with fail
  refine (HAw.out _).mono ?_
  rintro e w3 ⟨rfl, hb⟩
  replace HB := stp HB hb
  clear hb
  go_wp2
  go_ret
  exact ⟨rfl, HB.out⟩

/-- what is known of the pool in a round -/
structure Sv (L P : List TM.N) (c : Nat) : Prop where
  row : TM.Row P
  once : TM.Once P
  ok : ∀ x ∈ P, TM.okN x
  len : P.length ≤ c
  ge : L.length ≤ P.length
  at_ : ∀ j, j < L.length → TM.tr P j = TM.tr L j
theorem Sv.step {L P Q : List TM.N} {c B : Nat} {t : TM.Tr} {q : Nat} (h : Sv L P c) (hM : TM.Made P Q t q) (hl : Q.length ≤ P.length + B) : Sv L Q (c + B) :=
  ⟨hM.row, hM.once, hM.ok, by have := h.len; omega, by have := h.ge; have := hM.len; omega, fun j hj => by rw [(hM.keep (by have := h.ge; omega)).2]; exact h.at_ j hj⟩
set_option maxHeartbeats 6400000 in
set_option maxRecDepth 1000000 in
theorem sval_good {Pl : PoolIs} (hPl : PoolOk Pl) (hPa : PaOk Pl) (hSk : SkOk Pl) (hSa : SaOk) (hAw : Aw12) (A : Option Addr) (n cap : Nat) (r : List Int) (op : Int) (hk : R.okR r) (hop : TM.isOp op = true) (l : List TM.N) (hln : l.length = n) (hn : n ≤ 25) (h0 : 0 < n) (ok : ∀ x ∈ l, TM.okN x) (hrb : TM.rowB l = true) (w : World) (hl : LiesN w A l) :
    Calls Try.prog 4 #[.slice A n cap, .agg (RB.enc r), .int .i64 op] w fun e w' => e = .returned (.bool true) ∧ Below w.heap.size w w' := by
  have hd : decide (25 < (n : Int)) = false := decide_eq_false (by omega)
  have hz : ((n : Int) == 0) = false := beq_eq_false_iff_ne.2 (by omega)
  have hr := TM.row_iff.1 hrb
  have hXX := RB.lcf_eq
  have hsz16 := RB.enc_size hk.1
  have HRc := hid (RB.Rec.new w r hk.1)
  obtain ⟨w0, hw0⟩ : ∃ w0, w.alloc (.cells (RB.enc r) 43) = w0 := ⟨_, rfl⟩
  rw [hw0] at HRc
  have HB0 := hid (show Below w.heap.size w w0 from by rw [← hw0]; exact al w _)
  have HAw := hid hAw
  have HP := hid hPl
  have HRt := hid (fun W (h : LiesN W A l) => rrow_any A n cap l hln (by omega) ok W h true hrb)
  have HI1 := hid (fun W (h : LiesN W A l) => rinto_any W.heap.size 0 0 none [] A n cap l hln hr ok TM.row_nil TM.once_nil (fun x hx => (by cases hx)) (by simp; omega) W h (Nat.le_refl _) (fun h0 B hB => by
    obtain ⟨b, o, rfl, hh⟩ := h.ly (by omega)
    injection hB with hB; subst hB; exact hh.1) (OwnN.nil _ _))
  have hinv := TM.pl_inv hr ok TM.row_nil TM.once_nil (fun x hx => (by cases hx)) (by simp; omega) n (by rw [hln]; exact Nat.le_refl _)
  obtain ⟨L, hL⟩ : ∃ L, TM.pl [] l n = L := ⟨_, rfl⟩
  rw [hL] at hinv
  have HI1' := hid (fun W h => by have := HI1.out W h; rw [hL] at this; exact this)
  obtain ⟨i1, i2, i3, i4, _⟩ := hinv
  simp only [List.length_nil, Nat.zero_add] at i1
  have HLp := hid (fun a m c (e : L.length = m) W (h : LiesN W a L) => lpool hPl a m c L e (by omega) i2 i3 i4 W h)
  have HVs := hid (fun a m c (e : L.length = m) W (h : LiesN W a L) => rvals_any a m c L e i2 i4 r hk W h)
  have HSa := hid (fun a m c (e : L.length = m) (k : Nat) (hk : k < m) W (h : LiesN W a L) => hSa a m c L k e (by omega) i2 i4 hk W h)
  have HL4 := hid (And.intro i2 (And.intro i3 (And.intro i4 (And.intro hk hop))))
  have HH := hid (hl.below HB0.out)
  clear hAw hPl hln ok hrb hr hl HI1 hL i2 i3 i4 hSa h0 hk
  go_enter Try.func4, Try.ntmps4
  go_wp2_with fail
  try rw [hw0]
  clear hw0
  refine (HAw.out _).mono ?_
  rintro e1 w1 ⟨rfl, hb⟩
  have HB := hid hb
  clear hb HAw
  go_wp2_with fail
  refine (HRt.out _ (HH.out.below HB.out)).mono ?_
  rintro e1 w2 ⟨rfl, hb⟩
  replace HB := stp HB hb
  clear hb HRt
  go_wp2_with fail
  refine (risop op _).mono ?_
  rintro e1 w2' ⟨rfl, rfl⟩
  rw [hop]
  go_wp2_with fail
  refine (HI1'.out _ (HH.out.below HB.out)).mono ?_
  rintro e1 w3 ⟨s, m, c, rfl, hO, _, hg, _⟩
  have hb3 := gbelow hg (Nat.le_refl _) (fun k hk => by cases hk)
  replace HB := stp HB hb3
  have hlm := hO.len
  have HL3 := hid hO.lies
  clear hO hg hb3 HI1'
  go_wp2_with fail
  refine (HLp.out s m c hlm _ HL3.out).mono ?_
  rintro e1 w4 ⟨v, F, rfl, hpl, hb, hF⟩
  have hld := (HRc.out.below (stp HB hb).out HRc.out.lt).load
  have HQ := hid (And.intro hpl (And.intro hb hF))
  clear hpl hb hF HLp
  go_wp2_with fail
  refine (HVs.out s m c hlm _ (HL3.out.below HQ.out.2.1)).mono ?_
  rintro e1 w5 ⟨gv, rfl, hRv, hb, hgv⟩
  have HI := hid (show ∃ F P, Pl w5 F v P ∧ Below w3.heap.size w3 w5 ∧ (∀ b, F b → w3.heap.size ≤ b) ∧ ¬ F gv ∧ Row w5 gv m (fun j => .int .u32 (TM.val L r j)) ∧ Sv L P (25 + 0 * 30) from
    ⟨F, L, HP.out.below HQ.out.1 hb, (stp (hid HQ.out.2.1) hb).out, HQ.out.2.2, fun h => by have := HP.out.lt _ _ _ _ HQ.out.1 gv h; omega, hRv, HL4.out.1, HL4.out.2.1, HL4.out.2.2.1, by omega, Nat.le_refl _, fun j hj => rfl⟩)
  clear hRv hb hgv HQ hld HVs
  go_wp2
  go_loopw [60] (fun iv wr => ∃ (q : Nat), q ≤ m ∧ iv = .int .i64 q ∧ Hid (∃ F P, Pl wr F v P ∧ Below w3.heap.size w3 wr ∧ (∀ b, F b → w3.heap.size ≤ b) ∧ ¬ F gv ∧ Row wr gv m (fun j => .int .u32 (TM.val L r j)) ∧ Sv L P (25 + q * 30))) (fun iv _ => m - (intOf iv).toNat)
  case atStart => exact ⟨0, Nat.zero_le _, rfl, HI.out⟩
  case round =>
    clear HI
    obtain ⟨q, hq, rfl, HR⟩ := hrel
    by_cases hlt : q < m
    · have i2 : (q : Int) < (m : Int) := by omega
      obtain ⟨F, P, hpl, hbw, hF, hgF, hRv, hS⟩ := HR.out
      obtain ⟨b, hb⟩ : ∃ b : Nat, (m : Int) - 1 - (q : Int) = (b : Int) := ⟨m - 1 - q, by omega⟩
      have hbm : b < m := by omega
      have i3 : (b : Int) < (m : Int) := by omega
      have hqL : q < L.length := by omega
      have hbL : b < L.length := by omega
      have hPb : P.length ≤ 1000 := by have := hS.len; omega
      have hbd : TM.clT op (TM.tr P q) + TM.clT op (TM.tr P b) + 2 ≤ 30 := by
        rw [hS.at_ q hqL, hS.at_ b hbL]
        by_cases h : op = 128
        · have hz : ∀ u, TM.clT op u = 0 := fun u => TM.clT_flat (by
            unfold TM.chn
            split
            · rw [if_neg (by rw [h]; rintro ⟨g, _⟩; revert g; decide)]
            · rfl)
          rw [hz, hz]; omega
        · have h1 := TM.clT_le HL4.out.1 h q hqL
          have h2 := TM.clT_le HL4.out.1 h b hbL
          omega
      have HM1 := hid (hSk _ F v P op q b b hpl hS.row hS.once hS.ok (by omega) hop (by have := hS.ge; omega) (fun _ => ⟨by have := hS.ge; omega, rfl⟩) (wfs (by omega)))
      rw [hS.at_ q hqL, hS.at_ b hbL] at HM1
      have HS := hid (And.intro hbw (And.intro hF (And.intro hgF (And.intro hRv hS))))
      have HBD := hid (by rw [hS.at_ q hqL, hS.at_ b hbL] at hbd; exact hbd)
      have okw : TM.okW r := fun i => HL4.out.2.2.2.1.2 i
      have oq := TM.tr_okT HL4.out.1 HL4.out.2.2.1 q hqL
      have ob := TM.tr_okT HL4.out.1 HL4.out.2.2.1 b hbL
      have hvq := TM.val_tr HL4.out.1 r q hqL
      have hvb := TM.val_tr HL4.out.1 r b hbL
      have HVT := hid (TM.mk_val hop okw oq (fun _ => ob))
      have HAN := hid (TM.anew_val okw _ oq)
      obtain ⟨va, hva⟩ : ∃ va, TM.val L r q = va := ⟨_, rfl⟩
      obtain ⟨vb, hvb'⟩ : ∃ vb, TM.val L r b = vb := ⟨_, rfl⟩
      rw [← hvq, ← hvb, hva, hvb'] at HVT
      rw [← hvq, hva] at HAN
      have wa : TM.W32 va := by rw [← hva, hvq]; exact TM.valT_w32 okw _ oq
      have wb : TM.W32 vb := by rw [← hvb', hvb]; exact TM.valT_w32 okw _ ob
      have HVV := hid (And.intro hva hvb')
      clear hpl hbw hF hgF hRv hS HR hbd oq ob hvq hvb hva hvb' okw
      go_wp2_with fail
      refine HM1.out.mono ?_
      rintro e1 w6 ⟨F2, P2, p2, rfl, hM, hML, hpl2, hfr, hF2⟩
      have hb6 := hfr.below HS.out.1 HS.out.2.1 HS.out.1.size
      have HS6 := hid (show Pl w6 F2 v P2 ∧ Below w3.heap.size w3 w6 ∧ (∀ b, F2 b → w3.heap.size ≤ b) ∧ ¬ F2 gv ∧ Row w6 gv m (fun j => .int .u32 (TM.val L r j)) ∧ Sv L P2 (25 + (q + 1) * 30) ∧ p2 < P2.length ∧ TM.valT r (TM.tr P2 p2) = TM.told op va vb from
        ⟨hpl2, hb6, fun b hb => by
          rcases hF2 b hb with h | h
          · exact HS.out.2.1 b h
          · have := HS.out.1.size; omega, fun h => by
          rcases hF2 gv h with h | h
          · exact HS.out.2.2.1 h
          · have := HS.out.2.2.2.1.lt; omega, HS.out.2.2.2.1.fr hfr HS.out.2.2.1, (fun h => { h with len := by have := h.len; have := HBD.out; omega } : Sv L P2 (25 + q * 30 + _) → Sv L P2 (25 + (q + 1) * 30)) (HS.out.2.2.2.2.step hM hML), hM.lt, by
          rw [hM.tr, HVT.out]
          split
          · rename_i h; rw [h]
            rw [TM.told_on (by decide) (by decide), TM.told_on (by decide) (by decide)]; rfl
          · rfl⟩)
      clear hM hML hpl2 hfr hF2 hb6 HM1 HS HVT HBD
      have HC := hid (fun d os => Calls.regrown_of (w := w6) (d := d) (os := os) (v := .tuple #[.int .u32 (WM.val op va vb), .bool (WM.ok op vb)]) (WB.ralu_any op va vb wa.1 wa.2 wb.1 wb.2 (grow (redrawn w6 d) os)))
      have y1 := HS6.out.2.2.2.2.1.cell q hlt
      have y2 := HS6.out.2.2.2.2.1.cell b hbm
      simp only [HVV.out.1] at y1
      simp only [HVV.out.2] at y2
      have k1 := cell_regrown y1
      have k2 := cell_regrown y2
      obtain ⟨tv, htv⟩ : ∃ tv, WM.val op va vb = tv := ⟨_, rfl⟩
      obtain ⟨tk, htk⟩ : ∃ tk, WM.ok op vb = tk := ⟨_, rfl⟩
      rw [htv, htk] at HC
      have HTD := hid (show TM.told op va vb = if tk = true then tv else 0 by unfold TM.told; rw [htk, htv])
      clear htv htk wa wb
      go_wp2
      refine wp_region_quiet_below (by kernel_rfl) (by kernel_rfl) ?_
      repeat (quiet_step (exact HC.out _ _))
      refine wpQuiet_nil ?_
      intro w7 hw7
      have hb7 : Below w6.heap.size w6 w7 := by obtain ⟨⟨d, os⟩, rfl⟩ := hw7; exact below_regrown _ _ _
      have HS7 := hid (show Pl w7 F2 v P2 ∧ Below w3.heap.size w3 w7 ∧ Row w7 gv m (fun j => .int .u32 (TM.val L r j)) from ⟨HP.out.below HS6.out.1 hb7, (stp (hid HS6.out.2.1) hb7).out, HS6.out.2.2.2.2.1.below hb7⟩)
      clear hw7 hb7 y1 y2 k1 k2 HC
      obtain ⟨T, hT⟩ : ∃ T, TM.told op va vb = T := ⟨_, rfl⟩
      have HTT := hid (show (tk = true ∧ tv = T) ∨ (tk = false ∧ T = 0) from by
        have := HTD.out
        rw [hT] at this
        cases tk with
        | true => exact .inl ⟨rfl, by rw [this]; rfl⟩
        | false => exact .inr ⟨rfl, by rw [this]; rfl⟩)
      rw [hT] at HS6
      clear hT HTD
      obtain ⟨k, hk⟩ : ∃ k, P2.length = k := ⟨_, rfl⟩
      have hk2 : k ≤ 2000 := by rw [← hk]; have := HS6.out.2.2.2.2.2.1.len; omega
      have hpk : p2 < k := by rw [← hk]; exact HS6.out.2.2.2.2.2.2.1
      have d5 : decide ((k : Int) ≤ (p2 : Int)) = false := decide_eq_false (by omega)
      have i7 : (p2 : Int) < (k : Int) := by omega
      have HKK := hid hk
      have HVL := hid (show TM.val P2 r p2 = T from by rw [TM.val_tr HS6.out.2.2.2.2.2.1.row r p2 (by omega)]; exact HS6.out.2.2.2.2.2.2.2)
      clear hk
      have hTT : (T != T) = false := by simp
      rcases HTT.out with ⟨rfl, rfl⟩ | ⟨rfl, rfl⟩
      all_goals
        go_wp2_with fail
        refine (hPa _ F2 v P2 HS7.out.1).mono ?_
        rintro e1 w8 ⟨a6, c6, rfl, hc6, hl6, hb⟩
        rw [HKK.out]
        have HS8 := hid (show Pl w8 F2 v P2 ∧ Below w3.heap.size w3 w8 ∧ Row w8 gv m (fun j => .int .u32 (TM.val L r j)) ∧ LiesN w8 a6 P2 from ⟨HP.out.below HS7.out.1 hb, (stp (hid HS7.out.2.1) hb).out, HS7.out.2.2.below hb, hl6⟩)
        clear hb hl6 HS7 hc6
        go_wp2_with fail
        refine (rrow_any a6 k c6 P2 HKK.out (by omega) HS6.out.2.2.2.2.2.1.ok _ HS8.out.2.2.2 true (TM.row_iff.2 HS6.out.2.2.2.2.2.1.row)).mono ?_
        rintro e1 w9 ⟨rfl, hb⟩
        have HS9 := hid (show Pl w9 F2 v P2 ∧ Below w3.heap.size w3 w9 ∧ Row w9 gv m (fun j => .int .u32 (TM.val L r j)) ∧ LiesN w9 a6 P2 from ⟨HP.out.below HS8.out.1 hb, (stp (hid HS8.out.2.1) hb).out, HS8.out.2.2.1.below hb, HS8.out.2.2.2.below hb⟩)
        clear hb HS8
        have hld := (HRc.out.below (stp HB HS9.out.2.1).out HRc.out.lt).load
        go_wp2_with fail
        refine (rvals_any a6 k c6 P2 HKK.out HS6.out.2.2.2.2.2.1.row HS6.out.2.2.2.2.2.1.ok r HL4.out.2.2.2.1 _ HS9.out.2.2.2).mono ?_
        rintro e1 w10 ⟨gi, rfl, hRi, hb, _⟩
        have xi := hRi.cell p2 hpk
        simp only [HVL.out] at xi
        have HS10 := hid (show Pl w10 F2 v P2 ∧ Below w3.heap.size w3 w10 ∧ Row w10 gv m (fun j => .int .u32 (TM.val L r j)) from ⟨HP.out.below HS9.out.1 hb, (stp (hid HS9.out.2.1) hb).out, HS9.out.2.2.1.below hb⟩)
        clear hb HS9 hRi hld
        go_wp2_with fail
        refine (HSa.out s m c hlm q hlt _ (HL3.out.below HS10.out.2.1)).mono ?_
        rintro e1 w11 ⟨a9, m9, c9, out, p9, rfl, hlen9, hm9, hlo9, hal, hb⟩
        have HS11 := hid (show Pl w11 F2 v P2 ∧ Below w3.heap.size w3 w11 ∧ Row w11 gv m (fun j => .int .u32 (TM.val L r j)) ∧ LiesN w11 a9 out from ⟨HP.out.below HS10.out.1 hb, (stp (hid HS10.out.2.1) hb).out, HS10.out.2.2.below hb, hlo9⟩)
        have hp9 : p9 < m9 := by rw [← hlen9]; exact hal.lt
        have i8 : (p9 : Int) < (m9 : Int) := by omega
        have d6 : decide ((m9 : Int) ≤ (p9 : Int)) = false := decide_eq_false (by omega)
        have d6' : decide (m9 ≤ p9) = false := decide_eq_false (by omega)
        have HRo := hid (fun W (h : LiesN W a9 out) => rrow_any a9 m9 c9 out hlen9 (by omega) hal.ok W h true (TM.row_iff.2 hal.row))
        have HVo := hid (fun W (h : LiesN W a9 out) => rvals_any a9 m9 c9 out hlen9 hal.row hal.ok r HL4.out.2.2.2.1 W h)
        have HV9 := hid (show TM.val out r p9 = va from by rw [TM.val_tr hal.row r p9 hal.lt, hal.tr]; exact HAN.out)
        clear hb HS10 hlo9 hal hlen9 xi
        have HLd := hid (HS11.out.2.2.2)
        have HRl := hid (HRc.out.below (stp HB HS11.out.2.1).out HRc.out.lt)
        have hgl := HS11.out.2.2.1.lt
        have cv := HS11.out.2.2.1.cell q hlt
        simp only [HVV.out.1] at cv
        have d7 : (va != va) = false := by simp
        have hRlt := HRl.out.lt
        go_wp2
        refine wp_region_held_drew (S := fun w' => (∀ b o, b < w11.heap.size → w'.cell? ⟨b, o, none⟩ = w11.cell? ⟨b, o, none⟩) ∧ Below w11.heap.size w11 w') (by kernel_rfl) ?_ (fun hHeld => ?_)
        · ((try dsimp only); (go_split_ands; refine bkeepS ?_; first | exact (Below.refl _ _).drew | assumption | exact Below.trans (by assumption) (Below.mono (by assumption) (Below.size (by assumption)))))
        change wpAnyH _ _ _ _ _ 30 #[false, false, false, false, false, false, false, false, false, false, false, false, false, false, false, false, false, false, false, false, false, false, false, false, false, false, false, false, false, false] _ _
        refine wpAnyH_take (i := 0) (v := ?_) (by simp only [List.getElem?_toArray, List.getElem?_cons_zero]; rfl) (by kernel_rfl) (by kernel_rfl) (by kernel_rfl) (by exact fun _ _ _ h => h) (Or.inl ⟨by rfl, ?_⟩) (by assumption) ?_
        rotate_left
        · (intro w hSw; (try dsimp only at hSw); go_simp; try with_reducible rfl)
        try simp only [Act.put, List.setIfInBounds_toArray, List.set_cons_zero, List.set_cons_succ]
        refine wpAnyH_take (i := 1) (v := ?_) (by simp only [List.getElem?_toArray, List.getElem?_cons_succ, List.getElem?_cons_zero]; rfl) (by kernel_rfl) (by kernel_rfl) (by kernel_rfl) (by exact fun _ _ _ h => h) (Or.inl ⟨by rfl, ?_⟩) (by assumption) ?_
        rotate_left
        · (intro w hSw; (try dsimp only at hSw); go_simp; try with_reducible rfl)
        try simp only [Act.put, List.setIfInBounds_toArray, List.set_cons_zero, List.set_cons_succ]
        refine wpAnyH_take (i := 2) (v := ?_) (by simp only [List.getElem?_toArray, List.getElem?_cons_succ, List.getElem?_cons_zero]; rfl) (by kernel_rfl) (by kernel_rfl) (by kernel_rfl) (by exact fun _ _ _ h => h) (Or.inl ⟨by rfl, ?_⟩) (by assumption) ?_
        rotate_left
        · (intro w hSw; (try dsimp only at hSw); go_simp; try with_reducible rfl)
        try simp only [Act.put, List.setIfInBounds_toArray, List.set_cons_zero, List.set_cons_succ]
        refine wpAnyH_take (i := 3) (v := ?_) (by simp only [List.getElem?_toArray, List.getElem?_cons_succ, List.getElem?_cons_zero]; rfl) (by kernel_rfl) (by kernel_rfl) (by kernel_rfl) (by exact fun _ _ _ h => h) (Or.inl ⟨by rfl, ?_⟩) (by assumption) ?_
        rotate_left
        · (intro w hSw; (try dsimp only at hSw); go_simp; try with_reducible rfl)
        try simp only [Act.put, List.setIfInBounds_toArray, List.set_cons_zero, List.set_cons_succ]
        refine wpAnyH_take (i := 4) (v := ?_) (by simp only [List.getElem?_toArray, List.getElem?_cons_succ, List.getElem?_cons_zero]; rfl) (by kernel_rfl) (by kernel_rfl) (by kernel_rfl) (by exact fun _ _ _ h => h) (Or.inl ⟨by rfl, ?_⟩) (by assumption) ?_
        rotate_left
        · (intro w hSw; (try dsimp only at hSw); go_simp; try with_reducible rfl)
        try simp only [Act.put, List.setIfInBounds_toArray, List.set_cons_zero, List.set_cons_succ]
        refine wpAnyH_take (i := 5) (v := ?_) (by simp only [List.getElem?_toArray, List.getElem?_cons_succ, List.getElem?_cons_zero]; rfl) (by kernel_rfl) (by kernel_rfl) (by kernel_rfl) (by exact fun _ _ _ h => h) (Or.inl ⟨by rfl, ?_⟩) (by assumption) ?_
        rotate_left
        · (intro w hSw; (try dsimp only at hSw); go_simp; try with_reducible rfl)
        try simp only [Act.put, List.setIfInBounds_toArray, List.set_cons_zero, List.set_cons_succ]
        refine wpAnyH_take (i := 6) (v := ?_) (by simp only [List.getElem?_toArray, List.getElem?_cons_succ, List.getElem?_cons_zero]; rfl) (by kernel_rfl) (by kernel_rfl) (by kernel_rfl) (by exact fun _ _ _ h => h) (Or.inl ⟨by rfl, ?_⟩) (by assumption) ?_
        rotate_left
        · (intro w hSw; (try dsimp only at hSw); go_simp; try with_reducible rfl)
        try simp only [Act.put, List.setIfInBounds_toArray, List.set_cons_zero, List.set_cons_succ]
        refine wpAnyH_take (i := 7) (v := ?_) (by simp only [List.getElem?_toArray, List.getElem?_cons_succ, List.getElem?_cons_zero]; rfl) (by kernel_rfl) (by kernel_rfl) (by kernel_rfl) (by exact fun _ _ _ h => h) (Or.inl ⟨by rfl, ?_⟩) (by assumption) ?_
        rotate_left
        · (intro w hSw; (try dsimp only at hSw); go_simp; try with_reducible rfl)
        try simp only [Act.put, List.setIfInBounds_toArray, List.set_cons_zero, List.set_cons_succ]
        refine wpAnyH_take (i := 8) (v := ?_) (by simp only [List.getElem?_toArray, List.getElem?_cons_succ, List.getElem?_cons_zero]; rfl) (by kernel_rfl) (by kernel_rfl) (by kernel_rfl) (by exact fun _ _ _ h => h) (Or.inl ⟨by rfl, ?_⟩) (by assumption) ?_
        rotate_left
        · (intro w hSw; (try dsimp only at hSw); go_simp; try with_reducible rfl)
        try simp only [Act.put, List.setIfInBounds_toArray, List.set_cons_zero, List.set_cons_succ]
        refine wpAnyH_take (i := 9) (v := ?_) (by simp only [List.getElem?_toArray, List.getElem?_cons_succ, List.getElem?_cons_zero]; rfl) (by kernel_rfl) (by kernel_rfl) (by kernel_rfl) (by exact fun _ _ _ h => h) (Or.inl ⟨by rfl, ?_⟩) (by assumption) ?_
        rotate_left
        · (intro w hSw; (try dsimp only at hSw); go_simp; try with_reducible rfl)
        try simp only [Act.put, List.setIfInBounds_toArray, List.set_cons_zero, List.set_cons_succ]
        refine wpAnyH_take (i := 10) (v := ?_) (by simp only [List.getElem?_toArray, List.getElem?_cons_succ, List.getElem?_cons_zero]; rfl) (by kernel_rfl) (by kernel_rfl) (by kernel_rfl) (by exact fun _ _ _ h => h) (Or.inl ⟨by rfl, ?_⟩) (by assumption) ?_
        rotate_left
        · (intro w hSw; (try dsimp only at hSw); go_simp; try with_reducible rfl)
        try simp only [Act.put, List.setIfInBounds_toArray, List.set_cons_zero, List.set_cons_succ]
        refine wpAnyH_take (i := 11) (v := ?_) (by simp only [List.getElem?_toArray, List.getElem?_cons_succ, List.getElem?_cons_zero]; rfl) (by kernel_rfl) (by kernel_rfl) (by kernel_rfl) (by exact fun _ _ _ h => h) (Or.inl ⟨by rfl, ?_⟩) (by assumption) ?_
        rotate_left
        · (intro w hSw; (try dsimp only at hSw); go_simp; try with_reducible rfl)
        try simp only [Act.put, List.setIfInBounds_toArray, List.set_cons_zero, List.set_cons_succ]
        refine wpAnyH_take (i := 12) (v := ?_) (by simp only [List.getElem?_toArray, List.getElem?_cons_succ, List.getElem?_cons_zero]; rfl) (by kernel_rfl) (by kernel_rfl) (by kernel_rfl) (by exact fun _ _ _ h => h) (Or.inl ⟨by rfl, ?_⟩) (by assumption) ?_
        rotate_left
        · (intro w hSw; (try dsimp only at hSw); go_simp; try with_reducible rfl)
        try simp only [Act.put, List.setIfInBounds_toArray, List.set_cons_zero, List.set_cons_succ]
        refine wpAnyH_take (i := 13) (v := ?_) (by simp only [List.getElem?_toArray, List.getElem?_cons_succ, List.getElem?_cons_zero]; rfl) (by kernel_rfl) (by kernel_rfl) (by kernel_rfl) (by exact fun _ _ _ h => h) (Or.inl ⟨by rfl, ?_⟩) (by assumption) ?_
        rotate_left
        · (intro w hSw; (try dsimp only at hSw); go_simp; try with_reducible rfl)
        try simp only [Act.put, List.setIfInBounds_toArray, List.set_cons_zero, List.set_cons_succ]
        refine wpAnyH_ready (rs := [14]) (by kernel_rfl) (by simp) ?_
        refine AllReadyH.cons rfl (fun K hK => ?_) AllReadyH.nil
        go_simp
        go_wp2_with (go_at_call 10; refine (HRo.out _ (HLd.out.below (by first | assumption | (go_split_ands; assumption)))).mono ?_; rintro e1 w12 ⟨rfl, hB⟩)
        try dsimp only
        refine hK.out _ _ ?_ (fun hHeld => ?_)
        · ((try dsimp only); first | assumption | (go_split_ands; refine bkeepS ?_; first | exact (Below.refl _ _).drew | assumption | exact Below.trans (by assumption) (Below.mono (by assumption) (Below.size (by assumption)))))
        clear hK K
        refine wpAnyH_take (i := 15) (v := ?_) (by simp only [List.getElem?_toArray, List.getElem?_cons_succ, List.getElem?_cons_zero]; rfl) (by kernel_rfl) (by kernel_rfl) (by kernel_rfl) (by exact fun _ _ _ h => h) (Or.inl ⟨by rfl, ?_⟩) (by assumption) ?_
        rotate_left
        · (intro w hSw; (try dsimp only at hSw); go_simp; try with_reducible rfl)
        try simp only [Act.put, List.setIfInBounds_toArray, List.set_cons_zero, List.set_cons_succ]
        refine wpAnyH_take (i := 16) (v := ?_) (by simp only [List.getElem?_toArray, List.getElem?_cons_succ, List.getElem?_cons_zero]; rfl) (by kernel_rfl) (by kernel_rfl) (by kernel_rfl) (by exact fun _ _ _ h => h) (Or.inl ⟨by rfl, ?_⟩) (by assumption) ?_
        rotate_left
        · (intro w hSw; (try dsimp only at hSw); go_simp; try with_reducible rfl)
        try simp only [Act.put, List.setIfInBounds_toArray, List.set_cons_zero, List.set_cons_succ]
        refine wpAnyH_take (i := 17) (v := ?_) (by simp only [List.getElem?_toArray, List.getElem?_cons_succ, List.getElem?_cons_zero]; rfl) (by kernel_rfl) (by kernel_rfl) (by kernel_rfl) (by exact fun _ _ _ h => h) (Or.inl ⟨by rfl, ?_⟩) (by assumption) ?_
        rotate_left
        · (intro w hSw; (try dsimp only at hSw); go_simp; try with_reducible rfl)
        try simp only [Act.put, List.setIfInBounds_toArray, List.set_cons_zero, List.set_cons_succ]
        refine wpAnyH_take (i := 18) (v := ?_) (by simp only [List.getElem?_toArray, List.getElem?_cons_succ, List.getElem?_cons_zero]; rfl) (by kernel_rfl) (by kernel_rfl) (by kernel_rfl) (by exact fun _ _ _ h => h) (Or.inl ⟨by rfl, ?_⟩) (by assumption) ?_
        rotate_left
        · (intro w hSw; (try dsimp only at hSw); go_simp; try with_reducible rfl)
        try simp only [Act.put, List.setIfInBounds_toArray, List.set_cons_zero, List.set_cons_succ]
        refine wpAnyH_take (i := 19) (v := ?_) (by simp only [List.getElem?_toArray, List.getElem?_cons_succ, List.getElem?_cons_zero]; rfl) (by kernel_rfl) (by kernel_rfl) (by kernel_rfl) (by exact fun _ _ _ h => h) (Or.inl ⟨by rfl, ?_⟩) (by assumption) ?_
        rotate_left
        · (intro w hSw; (try dsimp only at hSw); have hld := (HRl.out.below hSw.2 hRlt).load; go_simp; try with_reducible rfl)
        try simp only [Act.put, List.setIfInBounds_toArray, List.set_cons_zero, List.set_cons_succ]
        refine wpAnyH_take (i := 21) (v := ?_) (by simp only [List.getElem?_toArray, List.getElem?_cons_succ, List.getElem?_cons_zero]; rfl) (by kernel_rfl) (by kernel_rfl) (by kernel_rfl) (by exact fun _ _ _ h => h) (Or.inl ⟨by rfl, ?_⟩) (by assumption) ?_
        rotate_left
        · (intro w hSw; (try dsimp only at hSw); go_simp; try with_reducible rfl)
        try simp only [Act.put, List.setIfInBounds_toArray, List.set_cons_zero, List.set_cons_succ]
        refine wpAnyH_take (i := 24) (v := ?_) (by simp only [List.getElem?_toArray, List.getElem?_cons_succ, List.getElem?_cons_zero]; rfl) (by kernel_rfl) (by kernel_rfl) (by kernel_rfl) (by exact fun _ _ _ h => h) (Or.inl ⟨by rfl, ?_⟩) (by assumption) ?_
        rotate_left
        · (intro w hSw; (try dsimp only at hSw); go_simp; try with_reducible rfl)
        try simp only [Act.put, List.setIfInBounds_toArray, List.set_cons_zero, List.set_cons_succ]
        refine wpAnyH_take (i := 25) (v := ?_) (by simp only [List.getElem?_toArray, List.getElem?_cons_succ, List.getElem?_cons_zero]; rfl) (by kernel_rfl) (by kernel_rfl) (by kernel_rfl) (by exact fun _ _ _ h => h) (Or.inl ⟨by rfl, ?_⟩) (by assumption) ?_
        rotate_left
        · (intro w hSw; (try dsimp only at hSw); go_simp; try with_reducible rfl)
        try simp only [Act.put, List.setIfInBounds_toArray, List.set_cons_zero, List.set_cons_succ]
        refine wpAnyH_take (i := 26) (v := ?_) (by simp only [List.getElem?_toArray, List.getElem?_cons_succ, List.getElem?_cons_zero]; rfl) (by kernel_rfl) (by kernel_rfl) (by kernel_rfl) (by exact fun _ _ _ h => h) (Or.inl ⟨by rfl, ?_⟩) (by assumption) ?_
        rotate_left
        · (intro w hSw; (try dsimp only at hSw); go_simp; try with_reducible rfl)
        try simp only [Act.put, List.setIfInBounds_toArray, List.set_cons_zero, List.set_cons_succ]
        refine wpAnyH_take (i := 27) (v := ?_) (by simp only [List.getElem?_toArray, List.getElem?_cons_succ, List.getElem?_cons_zero]; rfl) (by kernel_rfl) (by kernel_rfl) (by kernel_rfl) (by exact fun _ _ _ h => h) (Or.inl ⟨by rfl, ?_⟩) (by assumption) ?_
        rotate_left
        · (intro w hSw; (try dsimp only at hSw); go_simp; try with_reducible rfl)
        try simp only [Act.put, List.setIfInBounds_toArray, List.set_cons_zero, List.set_cons_succ]
        refine wpAnyH_ready (rs := [20]) (by kernel_rfl) (by simp) ?_
        refine AllReadyH.cons rfl (fun K hK => ?_) AllReadyH.nil
        go_simp
        go_wp2_with (go_at_call 18; refine (HVo.out _ (HLd.out.below (by first | assumption | (go_split_ands; assumption)))).mono ?_; rintro e1 w13 ⟨g9, rfl, hRi, hB, _⟩; have cp := hRi.cell p9 hp9; simp only [HV9.out] at cp; clear hRi)
        try dsimp only
        refine hK.out _ _ ?_ (fun hHeld => ?_)
        · ((try dsimp only); first | assumption | (go_split_ands; refine bkeepS ?_; first | exact (Below.refl _ _).drew | assumption | exact Below.trans (by assumption) (Below.mono (by assumption) (Below.size (by assumption)))))
        clear hK K
        refine wpAnyH_take (i := 22) (v := ?_) (by simp only [List.getElem?_toArray, List.getElem?_cons_succ, List.getElem?_cons_zero]; rfl) (by kernel_rfl) (by kernel_rfl) (by kernel_rfl) (by exact fun _ _ _ h => h) (Or.inl ⟨by rfl, ?_⟩) (by assumption) ?_
        rotate_left
        · (intro w hSw; (try dsimp only at hSw); go_simp; try with_reducible rfl)
        try simp only [Act.put, List.setIfInBounds_toArray, List.set_cons_zero, List.set_cons_succ]
        refine wpAnyH_ready (rs := [23]) (by kernel_rfl) (by simp) ?_
        refine AllReadyH.cons rfl (fun K hK => ?_) AllReadyH.nil
        go_simp
        try dsimp only
        refine hK.out _ _ ?_ (fun hHeld => ?_)
        · ((try dsimp only); first | assumption | (go_split_ands; refine bkeepS ?_; first | exact (Below.refl _ _).drew | assumption | exact Below.trans (by assumption) (Below.mono (by assumption) (Below.size (by assumption)))))
        clear hK K
        refine wpAnyH_take (i := 28) (v := ?_) (by simp only [List.getElem?_toArray, List.getElem?_cons_succ, List.getElem?_cons_zero]; rfl) (by kernel_rfl) (by kernel_rfl) (by kernel_rfl) (by exact fun _ _ _ h => h) (Or.inl ⟨by rfl, ?_⟩) (by assumption) ?_
        rotate_left
        · (intro w hSw; (try dsimp only at hSw); go_simp; try with_reducible rfl)
        try simp only [Act.put, List.setIfInBounds_toArray, List.set_cons_zero, List.set_cons_succ]
        refine wpAnyH_take (i := 29) (v := ?_) (by simp only [List.getElem?_toArray, List.getElem?_cons_succ, List.getElem?_cons_zero]; rfl) (by kernel_rfl) (by kernel_rfl) (by kernel_rfl) (by exact fun _ _ _ h => h) (Or.inl ⟨by rfl, ?_⟩) (by assumption) ?_
        rotate_left
        · (intro w hSw; (try dsimp only at hSw); go_simp; try with_reducible rfl)
        try simp only [Act.put, List.setIfInBounds_toArray, List.set_cons_zero, List.set_cons_succ]
        refine wpAnyH_done (by kernel_rfl) ?_ _
        have hb12 : Below w11.heap.size w11 _ := hHeld.2
        have HF := hid (show ∃ F P, Pl _ F v P ∧ Below w3.heap.size w3 _ ∧ (∀ b, F b → w3.heap.size ≤ b) ∧ ¬ F gv ∧ Row _ gv m (fun j => .int .u32 (TM.val L r j)) ∧ Sv L P (25 + (q + 1) * 30) from ⟨F2, P2, HP.out.below HS11.out.1 hb12, (stp (hid HS11.out.2.1) hb12).out, HS6.out.2.2.1, HS6.out.2.2.2.1, HS11.out.2.2.1.below hb12, HS6.out.2.2.2.2.2.1⟩)
        clear hHeld hb12 HS11 HLd HRl HRo HVo HV9 cv
        go_wp2
        go_roundw
        case rel => exact ⟨q + 1, by omega, by go_num, HF.out⟩
        case measure => simp [intOf]; omega
    · obtain rfl : q = m := by omega
      have HF := hid (show Below w.heap.size w wr from by
        obtain ⟨_, _, _, h, _⟩ := HR.out
        exact HB0.out.trans ((stp HB h).out.mono HB0.out.size))
      go_wp2
      go_ret
      exact ⟨rfl, HF.out⟩
set_option maxHeartbeats 1600000 in
set_option maxRecDepth 100000 in
theorem sval_none (hAw : Aw12) (A : Option Addr) (cap : Nat) (r : List Int) (op : Int) (w : World) :
    Calls Try.prog 4 #[.slice A 0 cap, .agg (RB.enc r), .int .i64 op] w fun e w' => e = .returned (.bool true) ∧ Below w.heap.size w w' := by
  have HB := hid (al w (.cells (RB.enc r) 43))
  have HAw := hid hAw
  clear hAw
  go_enter Try.func4, Try.ntmps4
  go_wp2_with fail
  refine (HAw.out _).mono ?_
  rintro e w1 ⟨rfl, hb⟩
  replace HB := stp HB hb
  clear hb
  go_wp2_with fail
  refine (HAw.out _).mono ?_
  rintro e w2 ⟨rfl, hb⟩
  replace HB := stp HB hb
  clear hb
  go_wp2
  go_ret
  exact ⟨rfl, HB.out⟩
set_option maxHeartbeats 1600000 in
set_option maxRecDepth 100000 in
theorem sval_noop (hAw : Aw12) (A : Option Addr) (n cap : Nat) (r : List Int) (op : Int) (hop : TM.isOp op = false) (l : List TM.N) (hln : l.length = n) (hn : n ≤ 25) (h0 : 0 < n) (ok : ∀ x ∈ l, TM.okN x) (hrb : TM.rowB l = true) (w : World) (hl : LiesN w A l) :
    Calls Try.prog 4 #[.slice A n cap, .agg (RB.enc r), .int .i64 op] w fun e w' => e = .returned (.bool true) ∧ Below w.heap.size w w' := by
  have hd : decide (25 < (n : Int)) = false := decide_eq_false (by omega)
  have hz : ((n : Int) == 0) = false := beq_eq_false_iff_ne.2 (by omega)
  have HB := hid (al w (.cells (RB.enc r) 43))
  have HAw := hid hAw
  have HRt := hid (fun W (h : LiesN W A l) => rrow_any A n cap l hln (by omega) ok W h true hrb)
  have HL := hid hl
  clear hAw hln hn h0 ok hrb hl
  go_enter Try.func4, Try.ntmps4
  go_wp2_with fail
  refine (HAw.out _).mono ?_
  rintro e w1 ⟨rfl, hb⟩
  replace HB := stp HB hb
  clear hb
  go_wp2_with fail
  refine (HRt.out _ (HL.out.below HB.out)).mono ?_
  rintro e w2 ⟨rfl, hb⟩
  replace HB := stp HB hb
  clear hb
  go_wp2_with fail
  refine (risop op _).mono ?_
  rintro e1 w2' ⟨rfl, rfl⟩
  rw [hop]
  go_wp2_with fail
  refine (HAw.out _).mono ?_
  rintro e w3 ⟨rfl, hb⟩
  replace HB := stp HB hb
  clear hb
  go_wp2
  go_ret
  exact ⟨rfl, HB.out⟩
theorem sval_law {Pl : PoolIs} (hPl : PoolOk Pl) (hPa : PaOk Pl) (hSk : SkOk Pl) (hSa : SaOk) (hAw : Aw12) (A : Option Addr) (cap : Nat) (r : List Int) (op : Int) (hk : R.okR r) (l : List TM.N) (ok : ∀ x ∈ l, TM.okN x) (w : World) (hl : LiesN w A l) :
    Calls Try.prog 4 #[.slice A l.length cap, .agg (RB.enc r), .int .i64 op] w fun e w' => e = .returned (.bool true) ∧ Below w.heap.size w w' := by
  by_cases h : 25 < l.length
  · exact sval_big hAw A l.length cap r op h w
  · by_cases h0 : 0 < l.length
    · cases hr : TM.rowB l with
      | false => exact sval_bad hAw A l.length cap r op l rfl (by omega) h0 ok hr w hl
      | true =>
        cases hop : TM.isOp op with
        | false => exact sval_noop hAw A l.length cap r op hop l rfl (by omega) h0 ok hr w hl
        | true => exact sval_good hPl hPa hSk hSa hAw A l.length cap r op hk hop l rfl (by omega) h0 ok hr w hl
    · have e : l.length = 0 := by omega
      rw [e]
      exact sval_none hAw A cap r op w
end Go.Proofs.Ytapbeffjnpgglaa.TB
