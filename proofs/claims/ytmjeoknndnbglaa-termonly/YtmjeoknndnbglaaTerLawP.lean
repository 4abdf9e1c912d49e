/-
  The walk of the statement TermPool, over what the program's own functions answer.
-/
import Derived.Test.YtmjeoknndnbglaaTerPool
namespace Go.Proofs.Ytmjeoknndnbglaa.TM
/-- the first nodes of a list, put into a pool as far as they may stand there -/
def poolF (l : List N) : Nat → List N
  | 0 => []
  | k + 1 => if may (nat0 l k) (poolF l k).length = true then (putN (poolF l k) (nat0 l k)).1 else poolF l k
theorem poolF_len (l : List N) : ∀ k, (poolF l k).length ≤ k := by
  intro k
  induction k with
  | zero => exact Nat.le_refl _
  | succ k ih =>
    rw [poolF]
    split
    · have := (putN_len (poolF l k) (nat0 l k)).2; omega
    · omega
end Go.Proofs.Ytmjeoknndnbglaa.TM
namespace Go.Proofs.Ytmjeoknndnbglaa.TB
open Go.ChangeShapes Go.WideShapes Go.ChangeAt Go.RowKit
open Go.Sort hiding Below
set_option linter.unusedVariables false
set_option maxRecDepth 100000

set_option maxHeartbeats 1600000 in
set_option maxRecDepth 100000 in
theorem tpool_big (hAw : Aw11) (A : Option Addr) (n cap : Nat) (hn : 100 < n) (w : World) :
    Calls Try.prog 7 #[.slice A n cap] w fun e w' => e = .returned (.bool true) ∧ Below w.heap.size w w' := by
  have hd : decide (100 < (n : Int)) = true := decide_eq_true (by omega)
  have HB := hid (Below.refl w.heap.size w)
  have HAw := hid hAw
  clear hn hAw
  go_enter Try.func7, Try.ntmps7
  go_wp2_with fail
  refine (HAw.out _).mono ?_
  rintro e w1 ⟨rfl, hb⟩
  replace HB := stp HB hb
  clear hb
  go_wp2_with fail
  refine (HAw.out _).mono ?_
  rintro e w2 ⟨rfl, hb⟩
  replace HB := stp HB hb
  clear hb
  go_wp2
  go_ret
  exact ⟨rfl, HB.out⟩

set_option maxHeartbeats 6400000 in
set_option maxRecDepth 1000000 in
theorem tpool_small (hAw : Aw11) {Pl : PoolIs} (hPl : PoolOk Pl) (A : Option Addr) (n cap : Nat) (l : List TM.N) (hln : l.length = n) (hn : n ≤ 100) (ok : ∀ x ∈ l, TM.okN x) (w : World) (hl : LiesN w A l) :
    Calls Try.prog 7 #[.slice A n cap] w fun e w' => e = .returned (.bool true) ∧ Below w.heap.size w w' := by
  have hd : decide (100 < (n : Int)) = false := decide_eq_false (by omega)
  have HB := hid (Below.refl w.heap.size w)
  have HAw := hid hAw
  have HP := hid hPl
  have HH := hid (And.intro hln (And.intro ok hl))
  clear hAw hPl hln ok hl
  go_enter Try.func7, Try.ntmps7
  go_wp2_with fail
  refine (HAw.out _).mono ?_
  rintro e w1 ⟨rfl, hb⟩
  replace HB := stp HB hb
  clear hb HAw
  go_wp2_with fail
  refine (HP.out.new _).mono ?_
  rintro e w4 ⟨v, F, rfl, hpl, hb, hF⟩
  have HM := hid (show OwnN w4 w.heap.size none 0 0 (TM.poolF l 0) ∧ Pl w4 F v (TM.poolF l 0) ∧ Below w.heap.size w w4 ∧ (∀ b, F b → w.heap.size ≤ b) ∧ (∀ b, blk none = some b → ¬ F b) from
    ⟨OwnN.nil _ _, hpl, (stp HB hb).out, fun b hf => by have h1 := hF b hf; have h2 := HB.out.size; omega, fun b hb => by cases hb⟩)
  clear hpl hb hF HB
  go_wp2
  go_loopw [4, 27] (fun pv iv wr => ∃ (k m c : Nat) (a : Option Addr) (F : Nat → Prop), k ≤ n ∧ m ≤ k ∧ pv = .slice a m c ∧ iv = .int .i64 k ∧ Hid (OwnN wr w.heap.size a m c (TM.poolF l k) ∧ Pl wr F v (TM.poolF l k) ∧ Below w.heap.size w wr ∧ (∀ b, F b → w.heap.size ≤ b) ∧ (∀ b, blk a = some b → ¬ F b))) (fun _ iv _ => n - (intOf iv).toNat)
  case atStart => exact ⟨0, 0, 0, none, F, Nat.zero_le _, Nat.le_refl _, rfl, rfl, HM.out⟩
  case round =>
    clear HM
    obtain ⟨k, m, c, a, F, hk, hmk, rfl, rfl, HR⟩ := hrel
    by_cases hlt : k < n
    · have i2 : (k : Int) < (n : Int) := by omega
      have hkl : k < l.length := by rw [HH.out.1]; exact hlt
      obtain ⟨b, o, rfl, hly⟩ := HH.out.2.2.ly (by omega)
      obtain ⟨x, hx⟩ : ∃ x, l[k] = x := ⟨_, rfl⟩
      have h0x : TM.nat0 l k = x := by rw [TM.nat0_eq hkl]; exact hx
      obtain ⟨q0, q1, q2, q3⟩ := (by rw [← hx]; exact (hly.far HR.out.2.2.1 hly.1).2 k hkl : NodeAt wr b o k x)
      have hokx : TM.okN x := by rw [← h0x]; exact TM.nat0_ok HH.out.2.1 k
      have HS := hid (show TM.poolF l (k + 1) = if TM.may x (TM.poolF l k).length = true then (TM.putN (TM.poolF l k) x).1 else TM.poolF l k from by rw [TM.poolF, h0x])
      clear hx h0x hly
      obtain ⟨xo, xa, xb, xk⟩ := x
      simp only at q0 q1 q2 q3
      have hlm := HR.out.1.len
      obtain ⟨L, hL⟩ : ∃ L, TM.poolF l k = L := ⟨_, rfl⟩
      rw [hL] at HR HS hlm
      have hbx := al wr (.cells #[.int .i64 xo, .int .i64 xa, .int .i64 xb, .int .u32 xk] 56)
      have HX := hid (show OwnN (wr.alloc (.cells #[.int .i64 xo, .int .i64 xa, .int .i64 xb, .int .u32 xk] 56)) w.heap.size a m c L ∧ Pl (wr.alloc (.cells #[.int .i64 xo, .int .i64 xa, .int .i64 xb, .int .u32 xk] 56)) F v L ∧ Below w.heap.size w (wr.alloc (.cells #[.int .i64 xo, .int .i64 xa, .int .i64 xb, .int .u32 xk] 56)) ∧ NAt (wr.alloc (.cells #[.int .i64 xo, .int .i64 xa, .int .i64 xb, .int .u32 xk] 56)) wr.heap.size (xo, xa, xb, xk) ∧ ¬ F wr.heap.size ∧ (∀ b, F b → w.heap.size ≤ b) ∧ (∀ b, blk a = some b → ¬ F b) ∧ (∀ b, blk a = some b → b ≠ wr.heap.size) ∧ w.heap.size ≤ wr.heap.size from
        ⟨HR.out.1.below hbx, HP.out.below HR.out.2.1 hbx, (stp (hid HR.out.2.2.1) hbx).out, NAt.new wr xo xa xb xk, fun hf => by have := HP.out.lt _ _ _ _ HR.out.2.1 _ hf; omega, HR.out.2.2.2.1, HR.out.2.2.2.2, fun b hb e => by
          obtain ⟨A', e1, e2⟩ := blk_at hb
          have := (HR.out.1.at A' e1).2; omega, HR.out.2.2.1.size⟩)
      have hX4 := HX.out.2.2.2.1.cells
      obtain ⟨x0, x1, x2, x3, _⟩ := hX4
      simp only at x0 x1 x2 x3
      clear HR hbx
      cases hmay : TM.may (xo, xa, xb, xk) m with
      | false =>
        have HPn := hid (HP.out.no _ F v L xo xa xb xk hokx HX.out.2.1 (by rw [hlm]; exact hmay))
        have HMy := hid (fun W => rmay_any xo xa xb xk hokx m W false hmay)
        have HS2 := hid (show TM.poolF l (k + 1) = L from by rw [HS.out, hlm, hmay]; rfl)
        clear hmay hokx HS
        go_wp2_with fail
        refine HPn.out.mono ?_
        rintro e w5 ⟨rfl, hb⟩
        have HY := hid (show OwnN w5 w.heap.size a m c L ∧ Pl w5 F v L ∧ Below w.heap.size w w5 ∧ NAt w5 wr.heap.size (xo, xa, xb, xk) from ⟨HX.out.1.below hb, HP.out.below HX.out.2.1 hb, (stp (hid HX.out.2.2.1) hb).out, HX.out.2.2.2.1.below hb⟩)
        clear hb x0 x1 x2 x3 HPn q0 q1 q2 q3
        have hY4 := HY.out.2.2.2.cells
        obtain ⟨x0, x1, x2, x3, _⟩ := hY4
        simp only at x0 x1 x2 x3
        go_wp2_with fail
        refine (HMy.out _).mono ?_
        rintro e w6 ⟨rfl, hb⟩
        have HZ := hid (show OwnN w6 w.heap.size a m c (TM.poolF l (k + 1)) ∧ Pl w6 F v (TM.poolF l (k + 1)) ∧ Below w.heap.size w w6 ∧ (∀ b, F b → w.heap.size ≤ b) ∧ (∀ b, blk a = some b → ¬ F b) from
          ⟨by rw [HS2.out]; exact HY.out.1.below hb, by rw [HS2.out]; exact HP.out.below HY.out.2.1 hb, (stp (hid HY.out.2.2.1) hb).out, HX.out.2.2.2.2.2.1, HX.out.2.2.2.2.2.2.1⟩)
        clear hb x0 x1 x2 x3 HMy HY HX HS2
        go_wp2
        go_roundw
        case rel => exact ⟨k + 1, m, c, a, F, by omega, by omega, rfl, by go_num, HZ.out⟩
        case measure => simp [intOf]; omega
      | true =>
        obtain ⟨L', p, hp⟩ : ∃ L' p, TM.putN L (xo, xa, xb, xk) = (L', p) := ⟨_, _, rfl⟩
        have HPp := hid (HP.out.put _ F v L xo xa xb xk hokx HX.out.2.1 (by rw [hlm]; exact hmay) (by omega) L' p hp)
        have HMy := hid (fun W => rmay_any xo xa xb xk hokx m W true hmay)
        have HS2 := hid (show TM.poolF l (k + 1) = L' from by rw [HS.out, hlm, hmay, if_pos rfl, hp])
        have hpa := TM.putN_at L (xo, xa, xb, xk)
        have hpl2 := TM.putN_len L (xo, xa, xb, xk)
        rw [hp] at hpa hpl2
        simp only at hpa hpl2
        have HPu := hid (fun W (h : OwnN W w.heap.size a m c L) (hb : w.heap.size ≤ W.heap.size) => rput_any w.heap.size m c a L xo xa xb xk (by omega) W h hb L' p hp)
        have HPa := hid (And.intro hpa hpl2)
        clear hmay hokx HS hp hpa hpl2
        go_wp2_with fail
        refine HPp.out.mono ?_
        rintro e w5 ⟨F', rfl, hpl, hfr, hF⟩
        have HY := hid (show OwnN w5 w.heap.size a m c L ∧ Pl w5 F' v L' ∧ Below w.heap.size w w5 ∧ NAt w5 wr.heap.size (xo, xa, xb, xk) ∧ (∀ b, F' b → w.heap.size ≤ b) ∧ (∀ b, blk a = some b → ¬ F' b) from by
          obtain ⟨y1, y2, y3, y4, y5, y6, y7, y8, y9⟩ := HX.out
          have hsz : (wr.alloc (.cells #[.int .i64 xo, .int .i64 xa, .int .i64 xb, .int .u32 xk] 56)).heap.size = wr.heap.size + 1 := by simp
          refine ⟨y1.fr hfr y7, hpl, hfr.below y3 y6 (by omega), y4.fr hfr y5, fun b hb => ?_, fun b hb hf => ?_⟩
          · rcases hF b hb with h | h
            · exact y6 b h
            · omega
          · obtain ⟨A', e1, e2⟩ := blk_at hb
            have := (y1.at A' e1).2
            rcases hF b hf with h | h
            · exact y7 b hb h
            · omega)
        clear hpl hfr hF x0 x1 x2 x3 HPp q0 q1 q2 q3
        have hY4 := HY.out.2.2.2.1.cells
        obtain ⟨x0, x1, x2, x3, _⟩ := hY4
        simp only at x0 x1 x2 x3
        go_wp2_with fail
        refine (HMy.out _).mono ?_
        rintro e w6 ⟨rfl, hb⟩
        replace HY := hid (show OwnN w6 w.heap.size a m c L ∧ Pl w6 F' v L' ∧ Below w.heap.size w w6 ∧ NAt w6 wr.heap.size (xo, xa, xb, xk) ∧ (∀ b, F' b → w.heap.size ≤ b) ∧ (∀ b, blk a = some b → ¬ F' b) from
          ⟨HY.out.1.below hb, HP.out.below HY.out.2.1 hb, (stp (hid HY.out.2.2.1) hb).out, HY.out.2.2.2.1.below hb, HY.out.2.2.2.2⟩)
        clear hb x0 x1 x2 x3 HMy
        have hY4 := HY.out.2.2.2.1.cells
        obtain ⟨x0, x1, x2, x3, _⟩ := hY4
        simp only at x0 x1 x2 x3
        go_wp2_with fail
        refine (HPu.out _ HY.out.1 HY.out.2.2.1.size).mono ?_
        rintro e w7 ⟨a', m', c', rfl, hO', hgr, hnew⟩
        have HZ := hid (show OwnN w7 w.heap.size a' m' c' L' ∧ Pl w7 F' v L' ∧ Below w.heap.size w w7 ∧ NAt w7 wr.heap.size (xo, xa, xb, xk) ∧ (∀ b, F' b → w.heap.size ≤ b) ∧ (∀ b, blk a' = some b → ¬ F' b) from by
          obtain ⟨y1, y2, y3, y4, y5, y6⟩ := HY.out
          refine ⟨hO', HP.out.keep _ _ F' v L' y2 hgr.size (fun b hf => hgr.block b (HP.out.lt _ _ _ _ y2 b hf) (fun e => y6 b e.symm hf)), y3.grown hgr y3.size (fun q hq => by
            obtain ⟨A', e1, e2⟩ := blk_at hq
            have := (y1.at A' e1).1; omega), ?_, y5, fun b hb hf => ?_⟩
          · have e := hgr.block wr.heap.size y4.lt (fun e => HX.out.2.2.2.2.2.2.2.1 _ e.symm rfl)
            unfold NAt at *
            rw [e]; exact y4
          · rcases hnew b hb with h | h
            · exact y6 b h hf
            · have := HP.out.lt _ _ _ _ y2 b hf; omega)
        clear hO' hgr hnew HY x0 x1 x2 x3 HPu
        have hm' : m' ≤ k + 1 := by have := HZ.out.1.len; have := HPa.out.2.2; omega
        have HAt := hid (HP.out.has w7 F' v L' p HZ.out.2.1 HPa.out.1.1 xo xa xb xk (by rw [← TM.nat0_eq HPa.out.1.1]; exact HPa.out.1.2))
        go_wp2_with fail
        refine HAt.out.mono ?_
        rintro e w8 ⟨rfl, hb⟩
        have HV := hid (fun ob : Obj => (show OwnN (w8.alloc ob) w.heap.size a' m' c' (TM.poolF l (k + 1)) ∧ Pl (w8.alloc ob) F' v (TM.poolF l (k + 1)) ∧ Below w.heap.size w (w8.alloc ob) ∧ (∀ b, F' b → w.heap.size ≤ b) ∧ (∀ b, blk a' = some b → ¬ F' b) from
          have hb2 := hb.trans ((al w8 ob).mono hb.size)
          ⟨by rw [HS2.out]; exact HZ.out.1.below hb2, by rw [HS2.out]; exact HP.out.below HZ.out.2.1 hb2, (stp (hid HZ.out.2.2.1) hb2).out, HZ.out.2.2.2.2⟩))
        have hNo := fun ob : Obj => (((HZ.out.2.2.2.1.below hb).alloc ob).cells)
        have x0 := fun ob => (hNo ob).1
        have x1 := fun ob => (hNo ob).2.1
        have x2 := fun ob => (hNo ob).2.2.1
        have x3 := fun ob => (hNo ob).2.2.2.1
        simp only at x0 x1 x2 x3
        have hg := guardN
        have hnn := neqN xo xa xb xk xo xa xb xk
        have hdd : decide ((xo, xa, xb, xk) = (xo, xa, xb, xk)) = true := decide_eq_true rfl
        rw [hdd, Bool.not_true] at hnn
        have hpp : ∀ z : Int, (z != z) = false := fun z => by simp
        clear hb HZ HAt HX hNo hdd HPa HS2
        go_wp2
        go_roundw
        case rel => exact ⟨k + 1, m', c', a', F', by omega, by omega, rfl, by go_num, HV.out _⟩
        case measure => simp [intOf]; omega
    · obtain rfl : k = n := by omega
      obtain ⟨L, hL⟩ : ∃ L, TM.poolF l k = L := ⟨_, rfl⟩
      rw [hL] at HR
      have hlm := HR.out.1.len
      have HN1 := hid (fun W (h : Pl W F v L) => HP.out.none W F v L m h (.inr (by omega)) (wf64 (by omega)))
      have HN2 := hid (fun W (h : Pl W F v L) => HP.out.none W F v L (-1) h (.inl (by omega)) (by decide))
      have HAl := hid (fun W (h : Pl W F v L) => HP.out.all W F v L h)
      rw [hlm] at HAl
      have HSm := hid (fun a1 c1 W (h1 : LiesN W a1 L) (h2 : LiesN W a L) => rsame_any a1 a L L m m c1 c W hlm hlm h1 h2 (by omega) (by omega) true (decide_eq_true rfl))
      replace HR := hid (show OwnN wr w.heap.size a m c L ∧ Pl wr F v L ∧ Below w.heap.size w wr from ⟨HR.out.1, HR.out.2.1, HR.out.2.2.1⟩)
      go_wp2_with fail
      refine (HN1.out _ HR.out.2.1).mono ?_
      rintro e w5 ⟨rfl, hb⟩
      have HY := hid (fun ob : Obj => (show OwnN (w5.alloc ob) w.heap.size a m c L ∧ Pl (w5.alloc ob) F v L ∧ Below w.heap.size w (w5.alloc ob) from
        have hb2 := hb.trans ((al w5 ob).mono hb.size)
        ⟨HR.out.1.below hb2, HP.out.below HR.out.2.1 hb2, (stp (hid HR.out.2.2) hb2).out⟩))
      clear hb HN1 HR
      go_wp2_with fail
      refine (HN2.out _ (HY.out _).2.1).mono ?_
      rintro e w6 ⟨rfl, hb⟩
      have HZ := hid (fun ob : Obj => (show OwnN (w6.alloc ob) w.heap.size a m c L ∧ Pl (w6.alloc ob) F v L ∧ Below w.heap.size w (w6.alloc ob) from
        have hb2 := hb.trans ((al w6 ob).mono hb.size)
        ⟨(HY.out _).1.below hb2, HP.out.below (HY.out _).2.1 hb2, (stp (hid (HY.out _).2.2) hb2).out⟩))
      clear hb HN2 HY
      go_wp2_with fail
      refine (HAl.out _ (HZ.out _).2.1).mono ?_
      rintro e w7 ⟨a7, c7, rfl, hx, hb⟩
      have HW := hid (show LiesN w7 a7 L ∧ LiesN w7 a L ∧ Below w.heap.size w w7 from ⟨hx, ((HZ.out _).1.below hb).lies, (stp (hid (HZ.out _).2.2) hb).out⟩)
      clear hx hb HAl HZ
      go_wp2_with fail
      refine (HSm.out _ _ _ HW.out.1 HW.out.2.1).mono ?_
      rintro e w8 ⟨rfl, hb⟩
      have HB := stp (hid HW.out.2.2) hb
      clear hb HSm HW
      go_wp2
      go_ret
      exact ⟨rfl, HB.out⟩
theorem tpool_law (hAw : Aw11) {Pl : PoolIs} (hPl : PoolOk Pl) (A : Option Addr) (cap : Nat) (l : List TM.N) (ok : ∀ x ∈ l, TM.okN x) (w : World) (hl : LiesN w A l) :
    Calls Try.prog 7 #[.slice A l.length cap] w fun e w' => e = .returned (.bool true) ∧ Below w.heap.size w w' := by
  by_cases h : 100 < l.length
  · exact tpool_big hAw A l.length cap h w
  · exact tpool_small hAw hPl A l.length cap l rfl (by omega) ok w hl
end Go.Proofs.Ytmjeoknndnbglaa.TB
