/-
  The walk of the statement SimpTurns, over what the program's own functions answer.
-/
import Derived.Test.YtapbeffjnpgglabSimLawP
import Derived.Test.YtapbeffjnpgglabSimPool
namespace Go.Proofs.Ytapbeffjnpgglab.TB
open Go.ChangeShapes Go.WideShapes Go.ChangeAt Go.RowKit
open Go.Sort hiding Below
set_option linter.unusedVariables false
set_option maxRecDepth 100000

set_option maxHeartbeats 1600000 in
set_option maxRecDepth 100000 in
theorem sturns_big (hAw : Aw12) (A : Option Addr) (n cap : Nat) (k op : Int) (hn : 40 < n) (w : World) :
    Calls Try.prog 3 #[.slice A n cap, .int .u32 k, .int .i64 op] w fun e w' => e = .returned (.bool true) ∧ Below w.heap.size w w' := by
  have hd : decide (40 < (n : Int)) = true := decide_eq_true (by omega)
  have hz : ((n : Int) == 0) = false := beq_eq_false_iff_ne.2 (by omega)
  have HB := hid (Below.refl w.heap.size w)
  have HAw := hid hAw
  clear hn hAw
  go_enter Try.func3, Try.ntmps3
  go_wp2_with fail
  refine (HAw.out _).mono ?_
  rintro e w1 ⟨rfl, hb⟩
  replace HB := stp HB hb
  clear hb
  go_wp2_with fail
  refine (HAw.out _).mono ?_
  rintro e w2 ⟨rfl, hb⟩
  replace HB := stp HB hb
  clear hb
  go_wp2
  go_ret
  exact ⟨rfl, HB.out⟩
set_option maxHeartbeats 1600000 in
set_option maxRecDepth 100000 in
theorem sturns_bad (hAw : Aw12) (A : Option Addr) (n cap : Nat) (k op : Int) (l : List TM.N) (hln : l.length = n) (hn : n ≤ 40) (h0 : 0 < n) (ok : ∀ x ∈ l, TM.okN x) (hr : TM.rowB l = false) (w : World) (hl : LiesN w A l) :
    Calls Try.prog 3 #[.slice A n cap, .int .u32 k, .int .i64 op] w fun e w' => e = .returned (.bool true) ∧ Below w.heap.size w w' := by
  have hd : decide (40 < (n : Int)) = false := decide_eq_false (by omega)
  have hz : ((n : Int) == 0) = false := beq_eq_false_iff_ne.2 (by omega)
  have HB := hid (Below.refl w.heap.size w)
  have HAw := hid hAw
  have HRt := hid (fun W (h : LiesN W A l) => rrow_any A n cap l hln (by omega) ok W h false hr)
  have HL := hid hl
  clear hn hAw hln ok hr hl h0
  go_enter Try.func3, Try.ntmps3
  go_wp2_with fail
  refine (HAw.out _).mono ?_
  rintro e w1 ⟨rfl, hb⟩
  replace HB := stp HB hb
  clear hb
  go_wp2_with fail
  refine (HRt.out _ (HL.out.below HB.out)).mono ?_
  rintro e w2 ⟨rfl, hb⟩
  replace HB := stp HB hb
  clear hb
  go_wp2_with fail
  refine (HAw.out _).mono ?_
  rintro e w3 ⟨rfl, hb⟩
  replace HB := stp HB hb
  clear hb
  go_wp2
  go_ret
  exact ⟨rfl, HB.out⟩

set_option maxHeartbeats 1600000 in
set_option maxRecDepth 100000 in
theorem sturns_none (hAw : Aw12) (A : Option Addr) (cap : Nat) (k op : Int) (w : World) :
    Calls Try.prog 3 #[.slice A 0 cap, .int .u32 k, .int .i64 op] w fun e w' => e = .returned (.bool true) ∧ Below w.heap.size w w' := by
  have HB := hid (Below.refl w.heap.size w)
  have HAw := hid hAw
  clear hAw
  go_enter Try.func3, Try.ntmps3
  go_wp2_with fail
  refine (HAw.out _).mono ?_
  rintro e w1 ⟨rfl, hb⟩
  replace HB := stp HB hb
  clear hb
  go_wp2_with fail
  refine (HAw.out _).mono ?_
  rintro e w2 ⟨rfl, hb⟩
  replace HB := stp HB hb
  clear hb
  go_wp2
  go_ret
  exact ⟨rfl, HB.out⟩
set_option maxHeartbeats 3200000 in
set_option maxRecDepth 100000 in
theorem sturns_else (hAw : Aw12) (A : Option Addr) (n cap : Nat) (k op : Int) (hop : TM.trn op = false) (l : List TM.N) (hln : l.length = n) (hn : n ≤ 40) (h0 : 0 < n) (ok : ∀ x ∈ l, TM.okN x) (hrb : TM.rowB l = true) (w : World) (hl : LiesN w A l) :
    Calls Try.prog 3 #[.slice A n cap, .int .u32 k, .int .i64 op] w fun e w' => e = .returned (.bool true) ∧ Below w.heap.size w w' := by
  have hd : decide (40 < (n : Int)) = false := decide_eq_false (by omega)
  have hz : ((n : Int) == 0) = false := beq_eq_false_iff_ne.2 (by omega)
  have HB := hid (Below.refl w.heap.size w)
  have HAw := hid hAw
  have HRt := hid (fun W (h : LiesN W A l) => rrow_any A n cap l hln (by omega) ok W h true hrb)
  have HL := hid hl
  have hne : ∀ c : Int, TM.trn c = true → (op != c) = true := fun c hc => by
    simp only [bne_iff_ne, ne_eq]; intro e; rw [e, hc] at hop; cases hop
  have b0 := hne 0 (by decide)
  have b1 := hne 32 (by decide)
  have b2 := hne 64 (by decide)
  have b3 := hne 80 (by decide)
  have b4 := hne 160 (by decide)
  clear hAw hln hn h0 ok hrb hl hne hop
  go_enter Try.func3, Try.ntmps3
  go_wp2_with fail
  refine (HAw.out _).mono ?_
  rintro e w1 ⟨rfl, hb⟩
  replace HB := stp HB hb
  clear hb
  go_wp2_with fail
  refine (HRt.out _ (HL.out.below HB.out)).mono ?_
  rintro e w2 ⟨rfl, hb⟩
  replace HB := stp HB hb
  clear hb
  go_wp2
  go_ret
  exact ⟨rfl, HB.out⟩
/-- what is known of the pool in a round -/
structure Sp (L P : List TM.N) (k : Int) (p c : Nat) : Prop where
  row : TM.Row P
  once : TM.Once P
  ok : ∀ x ∈ P, TM.okN x
  len : P.length ≤ c
  ge : L.length ≤ P.length
  at_ : ∀ j, j < L.length → TM.tr P j = TM.tr L j
  lt : p < P.length
  num : TM.tr P p = .num k
theorem Sp.step {L P Q : List TM.N} {k : Int} {p c B : Nat} {t : TM.Tr} {q : Nat} (h : Sp L P k p c) (hM : TM.Made P Q t q) (hl : Q.length ≤ P.length + B) : Sp L Q k p (c + B) :=
  ⟨hM.row, hM.once, hM.ok, by have := h.len; omega, by have := h.ge; have := hM.len; omega, fun j hj => by rw [(hM.keep (by have := h.ge; omega)).2]; exact h.at_ j hj, by have := h.lt; have := hM.len; omega, by rw [(hM.keep h.lt).2]; exact h.num⟩
set_option maxHeartbeats 6400000 in
set_option maxRecDepth 1000000 in
theorem sturns_good {Pl : PoolIs} (hPl : PoolOk Pl) (hSk : SkOk Pl) (hSb : SbOk Pl) (hAw : Aw12) (A : Option Addr) (n cap : Nat) (k op : Int) (hk : TM.W32 k) (hop : TM.trn op = true) (l : List TM.N) (hln : l.length = n) (hn : n ≤ 40) (h0 : 0 < n) (ok : ∀ x ∈ l, TM.okN x) (hrb : TM.rowB l = true) (w : World) (hl : LiesN w A l) :
    Calls Try.prog 3 #[.slice A n cap, .int .u32 k, .int .i64 op] w fun e w' => e = .returned (.bool true) ∧ Below w.heap.size w w' := by
  have hd : decide (40 < (n : Int)) = false := decide_eq_false (by omega)
  have hz : ((n : Int) == 0) = false := beq_eq_false_iff_ne.2 (by omega)
  have hr := TM.row_iff.1 hrb
  have HAw := hid hAw
  have HP := hid hPl
  have HRt := hid (fun W (h : LiesN W A l) => rrow_any A n cap l hln (by omega) ok W h true hrb)
  have HI1 := hid (fun W (h : LiesN W A l) => rinto_any W.heap.size 0 0 none [] A n cap l hln hr ok TM.row_nil TM.once_nil (fun x hx => (by cases hx)) (by simp; omega) W h (Nat.le_refl _) (fun h0 B hB => by
    obtain ⟨b, o, rfl, hh⟩ := h.ly (by omega)
    injection hB with hB; subst hB; exact hh.1) (OwnN.nil _ _))
  have hinv := TM.pl_inv hr ok TM.row_nil TM.once_nil (fun x hx => (by cases hx)) (by simp; omega) n (by rw [hln]; exact Nat.le_refl _)
  obtain ⟨L, hL⟩ : ∃ L, TM.pl [] l n = L := ⟨_, rfl⟩
  rw [hL] at hinv
  have HI1' := hid (fun W h => by have := HI1.out W h; rw [hL] at this; exact this)
  obtain ⟨i1, i2, i3, i4, _⟩ := hinv
  simp only [List.length_nil, Nat.zero_add] at i1
  have HLp := hid (fun a m c (e : L.length = m) W (h : LiesN W a L) => lpool hPl a m c L e (by omega) i2 i3 i4 W h)
  have HB := hid (Below.refl w.heap.size w)
  have HL := hid hl
  have HO4 := hid (And.intro i2 (And.intro i3 (And.intro i4 hk)))
  have hop2 := hop
  have hops := TM.trn_iff.1 hop
  have hisop := TM.trn_op hop
  have h128 : op ≠ 128 := by omega
  have HSk := hid (fun W F v P (a b : Nat) (hp : Pl W F v P) r o k' (hl : P.length ≤ 20000) ha hb => hSk W F v P op a b b hp r o k' hl hisop ha (fun _ => ⟨hb, rfl⟩) (wfs (by omega)))
  have HT := hid (fun (t : TM.Tr) (ht : TM.okT t) => TM.mk_turns hop ht hk)
  have HC0 := hid (show TM.clT op (.num k) = 0 from rfl)
  have HCL := hid (fun j (hj : j < L.length) => TM.clT_le i2 h128 j hj)
  have HOT := hid (fun j (hj : j < L.length) => TM.tr_okT i2 i4 j hj)
  clear hAw hPl hSk hln ok hrb hr hl HI1 hL i2 i3 i4 hk hop hisop h128 h0
  rcases hops with rfl | rfl | rfl | rfl | rfl
  all_goals
    clear hop2
    go_enter Try.func3, Try.ntmps3
    go_wp2_with fail
    refine (HAw.out _).mono ?_
    rintro e1 w1 ⟨rfl, hb⟩
    replace HB := stp HB hb
    clear hb HAw
    go_wp2_with fail
    refine (HRt.out _ (HL.out.below HB.out)).mono ?_
    rintro e1 w2 ⟨rfl, hb⟩
    replace HB := stp HB hb
    clear hb HRt
    go_wp2_with fail
    refine (HI1'.out _ (HL.out.below HB.out)).mono ?_
    rintro e1 w3 ⟨s, m, c, rfl, hO, _, hg, _⟩
    have hb3 := gbelow hg (Nat.le_refl _) (fun k hk => by cases hk)
    replace HB := stp HB hb3
    have hlm := hO.len
    have hll := hO.lies
    clear hO hg hb3 HI1'
    go_wp2_with fail
    refine (HLp.out s m c hlm _ hll).mono ?_
    rintro e1 w4 ⟨v, F, rfl, hpl, hb, hF⟩
    have hw3 := HB.out.size
    have HQ := hid (show Pl w4 F v L ∧ Below w.heap.size w w4 ∧ (∀ b, F b → w.heap.size ≤ b) from ⟨hpl, (stp HB hb).out, fun b hb => Nat.le_trans hw3 (hF b hb)⟩)
    clear hpl hb hF HLp hll hw3 HB
    go_wp2_with fail
    refine (hSb _ F v L k HQ.out.1 HO4.out.1 HO4.out.2.1 HO4.out.2.2.1 (by omega) HO4.out.2.2.2).mono ?_
    rintro e1 w5 ⟨F2, L2, p, rfl, hM, hML, hpl, hfr, hF⟩
    have HI := hid (show ∃ F P, Pl w5 F v P ∧ Below w.heap.size w w5 ∧ (∀ b, F b → w.heap.size ≤ b) ∧ Sp L P k p (41 + 0 * 90) from ⟨F2, L2, hpl, hfr.below HQ.out.2.1 HQ.out.2.2 HQ.out.2.1.size, fun b hb => by
        rcases hF b hb with h | h
        · exact HQ.out.2.2 b h
        · have := HQ.out.2.1.size; omega, ⟨hM.row, hM.once, hM.ok, by omega, hM.len, fun j hj => (hM.keep hj).2, hM.lt, hM.tr⟩⟩)
    clear hM hML hpl hfr hF HQ hSb
    go_wp2
    go_loopw [72] (fun iv wr => ∃ (q : Nat), q ≤ m ∧ iv = .int .i64 q ∧ Hid (∃ F P, Pl wr F v P ∧ Below w.heap.size w wr ∧ (∀ b, F b → w.heap.size ≤ b) ∧ Sp L P k p (41 + q * 90))) (fun iv _ => m - (intOf iv).toNat)
    case atStart => exact ⟨0, Nat.zero_le _, rfl, HI.out⟩
    case round =>
      clear HI
      obtain ⟨q, hq, rfl, HR⟩ := hrel
      by_cases hlt : q < m
      · have i2 : (q : Int) < (m : Int) := by omega
        obtain ⟨F, P, hpl, hbw, hF, hS⟩ := HR.out
        have hqL : q < L.length := by omega
        have hqP : q < P.length := by have := hS.ge; omega
        have hPb : P.length ≤ 3700 := by have := hS.len; have : q * 90 ≤ 40 * 90 := Nat.mul_le_mul_right _ (by omega); omega
        have hc1 := HCL.out q hqL
        have HM1 := hid (HSk.out _ F v P q p hpl hS.row hS.once hS.ok (by omega) hqP hS.lt)
        rw [hS.at_ q hqL, hS.num, HC0.out, Nat.add_zero] at HM1
        have HS := hid (And.intro hbw (And.intro hF hS))
        clear hpl hbw hF hS HR
        go_wp2_with fail
        refine HM1.out.mono ?_
        rintro e1 w6 ⟨F2, P2, p2, rfl, hM, hML, hpl2, hfr, hF2⟩
        have hS2 := HS.out.2.2.step hM hML
        have hb6 := hfr.below HS.out.1 HS.out.2.1 HS.out.1.size
        have hF6 : ∀ b, F2 b → w.heap.size ≤ b := fun b hb => by
          rcases hF2 b hb with h | h
          · exact HS.out.2.1 b h
          · have := HS.out.1.size; omega
        have hqP2 : q < P2.length := by have := hM.len; omega
        have HM2 := hid (HSk.out _ F2 v P2 p q hpl2 hS2.row hS2.once hS2.ok (by omega) hS2.lt hqP2)
        rw [hS2.at_ q hqL, hS2.num, HC0.out, Nat.zero_add] at HM2
        have HS6 := hid (And.intro hb6 (And.intro hF6 (And.intro hS2 (And.intro hM.lt hM.tr))))
        clear hM hML hpl2 hfr hF2 hS2 hb6 hF6 HM1
        go_wp2_with fail
        refine HM2.out.mono ?_
        rintro e1 w7 ⟨F3, P3, p3, rfl, hM, hML, hpl3, hfr, hF3⟩
        have hS3 := HS6.out.2.2.1.step hM hML
        have hb7 := hfr.below HS6.out.1 HS6.out.2.1 HS6.out.1.size
        have hF7 : ∀ b, F3 b → w.heap.size ≤ b := fun b hb => by
          rcases hF3 b hb with h | h
          · exact HS6.out.2.1 b h
          · have := HS6.out.1.size; omega
        have hpp : p2 = p3 := TM.tr_inj hS3.row hS3.ok hS3.once p2 p3 (by have := HS6.out.2.2.2.1; have := hM.len; omega) hM.lt (by
          rw [(hM.keep HS6.out.2.2.2.1).2, HS6.out.2.2.2.2, hM.tr]
          exact HT.out _ (HOT.out q hqL))
        have HF := hid (show ∃ F P, Pl w7 F v P ∧ Below w.heap.size w w7 ∧ (∀ b, F b → w.heap.size ≤ b) ∧ Sp L P k p (41 + (q + 1) * 90) from ⟨F3, P3, hpl3, hb7, hF7, { hS3 with len := by have := hS3.len; omega }⟩)
        clear hM hML hpl3 hfr hF3 hS3 hb7 hF7 HM2 HS6
        subst hpp
        have d1 : ((p2 : Int) != (p2 : Int)) = false := by simp
        go_wp2
        go_roundw
        case rel => exact ⟨q + 1, by omega, by go_num, HF.out⟩
        case measure => simp [intOf]; omega
      · obtain rfl : q = m := by omega
        have HF := hid (show Below w.heap.size w wr from by obtain ⟨_, _, _, h, _⟩ := HR.out; exact h)
        go_wp2
        go_ret
        exact ⟨rfl, HF.out⟩
theorem sturns_law {Pl : PoolIs} (hPl : PoolOk Pl) (hSk : SkOk Pl) (hSb : SbOk Pl) (hAw : Aw12) (A : Option Addr) (cap : Nat) (k op : Int) (hk : TM.W32 k) (l : List TM.N) (ok : ∀ x ∈ l, TM.okN x) (w : World) (hl : LiesN w A l) :
    Calls Try.prog 3 #[.slice A l.length cap, .int .u32 k, .int .i64 op] w fun e w' => e = .returned (.bool true) ∧ Below w.heap.size w w' := by
  by_cases h : 40 < l.length
  · exact sturns_big hAw A l.length cap k op h w
  · by_cases h0 : 0 < l.length
    · cases hr : TM.rowB l with
      | false => exact sturns_bad hAw A l.length cap k op l rfl (by omega) h0 ok hr w hl
      | true =>
        cases hop : TM.trn op with
        | false => exact sturns_else hAw A l.length cap k op hop l rfl (by omega) h0 ok hr w hl
        | true => exact sturns_good hPl hSk hSb hAw A l.length cap k op hk hop l rfl (by omega) h0 ok hr w hl
    · have e : l.length = 0 := by omega
      rw [e]
      exact sturns_none hAw A cap k op w
end Go.Proofs.Ytapbeffjnpgglab.TB
