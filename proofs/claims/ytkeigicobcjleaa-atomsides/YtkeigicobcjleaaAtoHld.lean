/-
  Layer 13's helper that tells whether an atom of two places is so of a record, as a walk over what the program's own functions answer.
-/
import Derived.Test.YtkeigicobcjleaaAtoMade
import Derived.Test.YtkeigicobcjleaaAtoRec
namespace Go.Proofs.Ytkeigicobcjleaa.TB
open Go.ChangeShapes Go.WideShapes Go.ChangeAt Go.RowKit
open Go.Sort hiding Below
set_option linter.unusedVariables false
set_option maxRecDepth 100000
theorem At2.load {W : World} {b : Nat} {x y : Int} (h : At2 W b x y) : (RB.lcf b 2).run Try.prog W = .ok #[.int .i64 x, .int .i64 y] W := by
  unfold RB.lcf
  obtain ⟨_, a0, a1⟩ := h
  have := run_loadCells_list (P := Try.prog) W ⟨b, 0, none⟩ [.int .i64 x, .int .i64 y] (fun j v hv => by
    have hadd : (⟨b, 0, none⟩ : Addr).add j = ⟨b, j, none⟩ := by unfold Addr.add; split <;> simp_all
    rw [hadd]
    have hj : j < 2 := (List.getElem?_eq_some_iff.1 hv).1
    have : j = 0 ∨ j = 1 := by omega
    rcases this with rfl | rfl
    · rw [a0]; simpa using hv
    · rw [a1]; simpa using hv)
  simpa [loadCells] using this

set_option maxHeartbeats 6400000 in
set_option maxRecDepth 1000000 in
theorem lholds {Pl : PoolIs} (hPl : PoolOk Pl) (hKm : KmOk Pl) (hPa : PfOk Pl) (s : Option Addr) (m c : Nat) (L : List TM.N) (hlm : L.length = m) (hm : m ≤ 1000) (h1 : TM.Row L) (h2 : TM.Once L) (h3 : ∀ x ∈ L, TM.okN x) (r : List Int) (hk : R.okR r) (op : Int) (ho : TM.isQ op = true) (x y : Nat) (hx : x < m) (hy : y < m) (nt : Bool) (w : World) (hl : LiesN w s L) :
    Calls Try.prog 21 #[.slice s m c, .int .i64 op, .agg #[.int .i64 x, .int .i64 y], .bool nt, .agg (RB.enc r)] w fun e w' => e = .returned (.tuple #[.bool (WM.ask op (TM.val L r x) (TM.val L r y) != nt), .bool true]) ∧ Below w.heap.size w w' := by
  have hX0 := At2.new w x y 47
  have hb0 := al w (.cells #[.int .i64 x, .int .i64 y] 47)
  obtain ⟨wa, hwa⟩ : ∃ wa, w.alloc (.cells #[.int .i64 x, .int .i64 y] 47) = wa := ⟨_, rfl⟩
  rw [hwa] at hX0 hb0
  have hR0 := RB.Rec.new wa r hk.1
  have hb1 := al wa (.cells (RB.enc r) 27)
  obtain ⟨w0, hw0⟩ : ∃ w0, wa.alloc (.cells (RB.enc r) 27) = w0 := ⟨_, rfl⟩
  rw [hw0] at hR0 hb1
  have HX := hid (hX0.below hb1)
  have HB := hid (hb0.trans (hb1.mono hb0.size))
  have HRc := hid hR0
  have hXX := RB.lcf_eq
  have hsz16 := RB.enc_size hk.1
  have HMd := hid (fun W (h : LiesN W s L) => lmade hPl hKm hPa s m c L hlm hm h1 h2 h3 op ho x y hx hy nt W h)
  have HL := hid (hl.below HB.out)
  have hwv : TM.okW r := fun i => hk.2 i
  have hval := TM.mkA_val hwv ho (TM.tr_okT h1 h3 x (by omega)) (TM.tr_okT h1 h3 y (by omega)) nt
  rw [← TM.val_tr h1 r x (by omega), ← TM.val_tr h1 r y (by omega)] at hval
  have hOk := TM.mkA_fix ho (TM.tr_okT h1 h3 x (by omega)) (TM.tr_okT h1 h3 y (by omega)) nt
  obtain ⟨t, ht⟩ : ∃ t, TM.mkA op (TM.tr L x) (TM.tr L y) nt = t := ⟨_, rfl⟩
  rw [ht] at HMd hval hOk
  have HOk := hid hOk
  rw [← hval]
  obtain ⟨hh, hhe⟩ : ∃ hh, TM.hldA r t = hh := ⟨_, rfl⟩
  rw [hhe]
  have HHe := hid hhe
  have hx2 := HX.out.load
  clear hX0 hb0 hR0 hb1 hPl hKm hPa ht hval hOk hwv hl hhe
  go_enter Try.func21, Try.ntmps21
  go_wp2_with fail
  try rw [hw0]
  clear hw0 hwa
  refine (HMd.out _ HL.out).mono ?_
  rintro e1 w5 ⟨L2, o2, p, q, n2, s5, c5, rfl, hM, hML, hc5, hl5, hb, hs5⟩
  have hAl := al w5 (.cells #[.int .i64 o2, .int .i64 (p : Int), .int .i64 (q : Int), .bool n2] 24)
  have hT := AAt.new w5 o2 (p : Int) (q : Int) n2
  have hbb := hb.trans (hAl.mono hb.size)
  replace HRc := hid (HRc.out.below hbb HRc.out.lt)
  replace HB := stp HB hbb
  have hl5' := hl5.below hAl
  obtain ⟨w6, hw6⟩ : ∃ w6, w5.alloc (.cells #[.int .i64 o2, .int .i64 (p : Int), .int .i64 (q : Int), .bool n2] 24) = w6 := ⟨_, rfl⟩
  rw [hw6] at hT HRc HB hl5'
  have HT := hid hT
  have HM := hid (And.intro hM hML)
  have HL5 := hid hl5'
  clear hM hML hl5 hb hs5 hAl hT hbb hl5' hx2 HMd HL HX
  by_cases e : t.1 = 1
  · have d1 : (((t.1 : Nat) : Int) != 1) = false := by rw [e]; rfl
    obtain ⟨rfl, rfl, hp, hq, hpt, hqt⟩ := HM.out.1.op e
    have hL2l := HM.out.2
    have HH2 := hid (fun W (h : LiesN W s5 L2) => rholdsA s5 L2.length c5 L2 rfl HM.out.1.row HM.out.1.ok r hk t.2.1 p q hp hq t.2.2.2.2 W h)
    have hE : (WM.ask t.2.1 (TM.val L2 r p) (TM.val L2 r q) != t.2.2.2.2) = TM.hldA r t := by
      rw [TM.val_tr HM.out.1.row r p hp, TM.val_tr HM.out.1.row r q hq, hpt, hqt]
      unfold TM.hldA
      rw [if_pos e]
    rw [hE, HHe.out] at HH2
    obtain ⟨x0, x1, x2, x3, xf⟩ := HT.out.cells
    have hla := HT.out.load
    have hld := HRc.out.load
    clear hE hpt hqt hp hq HM HOk
    go_wp2_with fail
    try rw [hw6]
    refine (HH2.out _ HL5.out).mono ?_
    rintro e1 w8 ⟨rfl, hb⟩
    replace HB := stp HB hb
    clear hb HH2 hw6
    go_wp2
    go_ret2
    exact ⟨rfl, HB.out⟩
  · have d1 : (((t.1 : Nat) : Int) != 1) = true := bne_iff_ne.2 (by omega)
    rcases HOk.out.two e with h2 | h3
    · have hh' : hh = true := by rw [← HHe.out]; unfold TM.hldA; rw [if_neg e, h2]; rfl
      have d2 : (((t.1 : Nat) : Int) == 2) = true := by rw [h2]; rfl
      subst hh'
      go_wp2
      go_ret2
      exact ⟨rfl, HB.out⟩
    · have hh' : hh = false := by rw [← HHe.out]; unfold TM.hldA; rw [if_neg e, h3]; rfl
      have d2 : (((t.1 : Nat) : Int) == 2) = false := by rw [h3]; rfl
      subst hh'
      go_wp2
      go_ret2
      exact ⟨rfl, HB.out⟩
end Go.Proofs.Ytkeigicobcjleaa.TB
