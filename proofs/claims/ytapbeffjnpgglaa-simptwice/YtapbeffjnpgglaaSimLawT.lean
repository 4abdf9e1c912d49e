/-
  The walk of the statement SimpTwice, over what the program's own functions answer.
-/
import Derived.Test.YtapbeffjnpgglaaSimLawP
namespace Go.Proofs.Ytapbeffjnpgglaa.TB
open Go.ChangeShapes Go.WideShapes Go.ChangeAt Go.RowKit
open Go.Sort hiding Below
set_option linter.unusedVariables false
set_option maxRecDepth 100000

set_option maxHeartbeats 1600000 in
set_option maxRecDepth 100000 in
theorem stwice_big (hAw : Aw12) (A : Option Addr) (n cap : Nat)  (hn : 25 < n) (w : World) :
    Calls Try.prog 6 #[.slice A n cap] w fun e w' => e = .returned (.bool true) ∧ Below w.heap.size w w' := by
  have hd : decide (25 < (n : Int)) = true := decide_eq_true (by omega)
  have hz : ((n : Int) == 0) = false := beq_eq_false_iff_ne.2 (by omega)
  have HB := hid (Below.refl w.heap.size w)
  have HAw := hid hAw
  clear hn hAw
  go_enter Try.func6, Try.ntmps6
  go_wp2_with fail
  refine (HAw.out _).mono ?_
  rintro e w1 ⟨rfl, hb⟩
  replace HB := stp HB hb
  clear hb
  go_wp2_with fail
  refine (HAw.out _).mono ?_
  rintro e w2 ⟨rfl, hb⟩
  replace HB := stp HB hb
  clear hb
  go_wp2
  go_ret
  exact ⟨rfl, HB.out⟩
set_option maxHeartbeats 1600000 in
set_option maxRecDepth 100000 in
theorem stwice_bad (hAw : Aw12) (A : Option Addr) (n cap : Nat)  (l : List TM.N) (hln : l.length = n) (hn : n ≤ 25) (h0 : 0 < n) (ok : ∀ x ∈ l, TM.okN x) (hr : TM.rowB l = false) (w : World) (hl : LiesN w A l) :
    Calls Try.prog 6 #[.slice A n cap] w fun e w' => e = .returned (.bool true) ∧ Below w.heap.size w w' := by
  have hd : decide (25 < (n : Int)) = false := decide_eq_false (by omega)
  have hz : ((n : Int) == 0) = false := beq_eq_false_iff_ne.2 (by omega)
  have HB := hid (Below.refl w.heap.size w)
  have HAw := hid hAw
  have HRt := hid (fun W (h : LiesN W A l) => rrow_any A n cap l hln (by omega) ok W h false hr)
  have HL := hid hl
  clear hn hAw hln ok hr hl h0
  go_enter Try.func6, Try.ntmps6
  go_wp2_with fail
  refine (HAw.out _).mono ?_
  rintro e w1 ⟨rfl, hb⟩
  replace HB := stp HB hb
  clear hb
  go_wp2_with fail
  refine (HRt.out _ (HL.out.below HB.out)).mono ?_
  rintro e w2 ⟨rfl, hb⟩
  replace HB := stp HB hb
  clear hb
  go_wp2_with fail
  refine (HAw.out _).mono ?_
  rintro e w3 ⟨rfl, hb⟩
  replace HB := stp HB hb
  clear hb
  go_wp2
  go_ret
  exact ⟨rfl, HB.out⟩

set_option maxHeartbeats 6400000 in
set_option maxRecDepth 1000000 in
theorem stwice_good (hAw : Aw12) (hSa : SaOk) (hSn : SnOk) (A : Option Addr) (n cap : Nat) (l : List TM.N) (hln : l.length = n) (hn : n ≤ 25) (ok : ∀ x ∈ l, TM.okN x) (hrb : TM.rowB l = true) (w : World) (hl : LiesN w A l) :
    Calls Try.prog 6 #[.slice A n cap] w fun e w' => e = .returned (.bool true) ∧ Below w.heap.size w w' := by
  have hd : decide (25 < (n : Int)) = false := decide_eq_false (by omega)
  have hr := TM.row_iff.1 hrb
  have HB := hid (Below.refl w.heap.size w)
  have HAw := hid hAw
  have HRt := hid (fun W (h : LiesN W A l) => rrow_any A n cap l hln (by omega) ok W h true hrb)
  have HSa := hid (fun (k : Nat) (hk : k < n) W (h : LiesN W A l) => hSa A n cap l k hln (by omega) hr ok hk W h)
  have HSx := hid (And.intro hSa hSn)
  have HH := hid (And.intro hln (And.intro hl (And.intro hr ok)))
  clear hAw hSa hln ok hrb hr hl hSn
  go_enter Try.func6, Try.ntmps6
  go_wp2_with fail
  refine (HAw.out _).mono ?_
  rintro e w1 ⟨rfl, hb⟩
  replace HB := stp HB hb
  clear hb HAw
  go_wp2_with fail
  refine (HRt.out _ (HH.out.2.1.below HB.out)).mono ?_
  rintro e w2 ⟨rfl, hb⟩
  replace HB := stp HB hb
  clear hb HRt
  go_wp2
  go_loopw [29] (fun iv wr => ∃ (k : Nat), k ≤ n ∧ iv = .int .i64 k ∧ Hid (Below w.heap.size w wr)) (fun iv _ => n - (intOf iv).toNat)
  case atStart => exact ⟨0, Nat.zero_le _, rfl, HB.out⟩
  case round =>
    clear HB
    obtain ⟨k, hk, rfl, HR⟩ := hrel
    by_cases hlt : k < n
    · have i2 : (k : Int) < (n : Int) := by omega
      have HS1 := hid (HSa.out k hlt)
      go_wp2_with fail
      refine (HS1.out _ (HH.out.2.1.below HR.out)).mono ?_
      rintro e w4 ⟨a, m, c, out, p, rfl, hlen, hm4, hlo, hal, hb⟩
      have HR4 := hid (show Below w.heap.size w w4 ∧ LiesN w4 a out from ⟨(stp HR hb).out, hlo⟩)
      have hkl : k < l.length := by rw [HH.out.1]; exact hlt
      have hot := TM.tr_okT HH.out.2.2.1 HH.out.2.2.2 k hkl
      have hpm : p < m := by rw [← hlen]; exact hal.lt
      have i5 : (p : Int) < (m : Int) := by omega
      have i6 : decide ((m : Int) ≤ (p : Int)) = false := decide_eq_false (by omega)
      have HA := hid (And.intro hal (And.intro hlen (TM.anew_twice _ hot)))
      have HRo := hid (fun W (h : LiesN W a out) => rrow_any a m c out hlen (by have := hal.row.1; omega) hal.ok W h true (TM.row_iff.2 hal.row))
      have HSo := hid (fun W (h : LiesN W a out) => HSx.out.1 a m c out p hlen (by omega) hal.row hal.ok hpm W h)
      have HNo := hid (fun W (h : LiesN W a out) => HSx.out.2 a m c out true hlen (by omega) hal.ok (by simp only [true_iff]; exact hal.norm hot) W h)
      clear hb hlo HR hot hkl hal HS1 hlen
      go_wp2_with fail
      refine (HRo.out _ HR4.out.2).mono ?_
      rintro e w5 ⟨rfl, hb⟩
      have HR5 := hid (show Below w.heap.size w w5 ∧ LiesN w5 a out from ⟨(stp (hid HR4.out.1) hb).out, HR4.out.2.below hb⟩)
      clear hb HR4 HRo
      go_wp2_with fail
      refine (HSo.out _ HR5.out.2).mono ?_
      rintro e w6 ⟨a2, m2, c2, out2, p2, rfl, hlen2, hm42, hlo2, hal2, hb⟩
      have HR6 := hid (show Below w.heap.size w w6 ∧ LiesN w6 a out ∧ LiesN w6 a2 out2 from ⟨(stp (hid HR5.out.1) hb).out, HR5.out.2.below hb, hlo2⟩)
      rw [HA.out.1.tr, HA.out.2.2] at hal2
      obtain rfl : m2 = m := by rw [← hlen2, ← HA.out.2.1]; exact hal2.len HA.out.1
      have hp2m : p2 < m2 := by rw [← hlen2]; exact hal2.lt
      have i7 : (p2 : Int) < (m2 : Int) := by omega
      have i8 : decide ((m2 : Int) ≤ (p2 : Int)) = false := decide_eq_false (by omega)
      have i9 : ((m2 : Int) != (m2 : Int)) = false := by simp
      have HR2 := hid (fun W (h : LiesN W a2 out2) => rrow_any a2 m2 c2 out2 hlen2 (by omega) hal2.ok W h true (TM.row_iff.2 hal2.row))
      have HA2 := hid (And.intro hal2 hlen2)
      clear hb hlo2 HR5 hal2 HSo hlen2 hm42
      go_wp2_with fail
      refine (HR2.out _ HR6.out.2.2).mono ?_
      rintro e w7 ⟨rfl, hb⟩
      have HR7 := hid (show Below w.heap.size w w7 ∧ LiesN w7 a out ∧ LiesN w7 a2 out2 from ⟨(stp (hid HR6.out.1) hb).out, HR6.out.2.1.below hb, HR6.out.2.2.below hb⟩)
      clear hb HR6 HR2
      go_wp2_with fail
      refine (HNo.out _ HR7.out.2.1).mono ?_
      rintro e w8 ⟨rfl, hb⟩
      have HR8 := hid (show Below w.heap.size w w8 ∧ LiesN w8 a out ∧ LiesN w8 a2 out2 from ⟨(stp (hid HR7.out.1) hb).out, HR7.out.2.1.below hb, HR7.out.2.2.below hb⟩)
      clear hb HR7 HNo
      have hblk : ∀ (x : Option Addr) (q : List TM.N), LiesN w8 x q → 0 < q.length → ∀ B, x = some B → B.block < w8.heap.size := fun x q h h0 B hB => by
        obtain ⟨b, o, rfl, hh⟩ := h.ly h0
        injection hB with hB; subst hB; exact hh.1
      have hw8 := HR8.out.1.size
      have HI1 := hid (rinto_any w8.heap.size 0 0 none [] a m2 c out HA.out.2.1 HA.out.1.row HA.out.1.ok TM.row_nil TM.once_nil (fun x hx => (by cases hx)) (by simp; omega) w8 HR8.out.2.1 (Nat.le_refl _) (fun h0 B hB => hblk a out HR8.out.2.1 (by rw [HA.out.2.1]; exact h0) B hB) (OwnN.nil _ _))
      have HB2 := hid (fun (h0 : 0 < m2) B (hB : a2 = some B) => hblk a2 out2 HR8.out.2.2 (by rw [HA2.out.2]; exact h0) B hB)
      clear hblk
      go_wp2_with fail
      refine HI1.out.mono ?_
      rintro e w9 ⟨a3, m3, c3, rfl, hO, hRw, hg, hat3⟩
      have hb9 := gbelow hg (Nat.le_refl _) (fun k hk => by cases hk)
      have hinv := TM.pl_inv HA.out.1.row HA.out.1.ok TM.row_nil TM.once_nil (fun x hx => (by cases hx)) (by rw [HA.out.2.1]; simp; omega) m2 (by rw [HA.out.2.1]; exact Nat.le_refl _)
      have HR9 := hid (show Below w.heap.size w w9 ∧ LiesN w9 a2 out2 ∧ Row w9 w8.heap.size m2 (fun j => .int .i64 ((TM.plc [] out j : Nat) : Int)) from ⟨(stp (hid HR8.out.1) hb9).out, HR8.out.2.2.below hb9, hRw⟩)
      have hPl : (TM.pl [] out m2).length ≤ m2 := by have := hinv.1; simp at this; exact this
      have hkey : TM.plc (TM.pl [] out m2) out2 p2 = TM.plc [] out p := by
        have h1 := hinv.2.2.2.2.1 p hpm
        refine (TM.plc_of_tr HA2.out.1.row HA2.out.1.ok hinv.2.1 hinv.2.2.1 hinv.2.2.2.1 (by rw [HA2.out.2]; omega) (by rw [HA2.out.2]; exact hp2m) h1.1).2 ?_
        rw [HA2.out.1.tr, TM.into_tr HA.out.1.row HA.out.1.ok TM.row_nil TM.once_nil (fun x hx => (by cases hx)) (by rw [HA.out.2.1]; simp; omega) (by rw [HA.out.2.1]; exact Nat.le_refl _) p hpm, HA.out.1.tr]
      have hbs : w8.heap.size ≤ w9.heap.size := hb9.size
      have HI2 := hid (rinto_any w8.heap.size m3 c3 a3 (TM.pl [] out m2) a2 m2 c2 out2 HA2.out.2 HA2.out.1.row HA2.out.1.ok hinv.2.1 hinv.2.2.1 hinv.2.2.2.1 (by omega) w9 HR9.out.2.1 hbs HB2.out hO)
      have HOat := hid (fun g' (h : blk a3 = some g') => (show w8.heap.size < g' from by
        rcases hat3 g' h with h | h
        · cases h
        · exact h))
      clear hO hRw hg hat3 hb9 hinv HI1 HB2 HR8 hPl
      go_wp2_with fail
      refine HI2.out.mono ?_
      rintro e w10 ⟨a4, m4, c4, rfl, _, hRw, hg, _⟩
      have hne : some w8.heap.size ≠ blk a3 := fun e => by have := HOat.out _ e.symm; omega
      have HR10 := hid (show Below w.heap.size w w10 ∧ Row w10 w8.heap.size m2 (fun j => .int .i64 ((TM.plc [] out j : Nat) : Int)) ∧ Row w10 w9.heap.size m2 (fun j => .int .i64 ((TM.plc (TM.pl [] out m2) out2 j : Nat) : Int)) from
        ⟨HR9.out.1.grown hg HR9.out.1.size (fun q hq => by have := HOat.out q hq; omega), HR9.out.2.2.grown hg hne, hRw⟩)
      clear hRw hg hne HI2 HR9 HOat hw8
      have x1 := HR10.out.2.1.cell p hpm
      have x2 := HR10.out.2.2.cell p2 hp2m
      rw [hkey] at x2
      obtain ⟨z, hz⟩ : ∃ z, TM.plc [] out p = z := ⟨_, rfl⟩
      rw [hz] at x1 x2
      have d1 : ((z : Int) != (z : Int)) = false := by simp
      clear hz hkey
      go_wp2
      go_quiet (fail)
      go_wp2
      have HF := hid (bdrew HR10.out.1 nq)
      go_roundw
      case rel => exact ⟨k + 1, by omega, by go_num, HF.out⟩
      case measure => simp [intOf]; omega
    · obtain rfl : k = n := by omega
      go_wp2
      go_ret
      exact ⟨rfl, HR.out⟩
theorem stwice_law (hAw : Aw12) (hSa : SaOk) (hSn : SnOk) (A : Option Addr) (cap : Nat) (l : List TM.N) (ok : ∀ x ∈ l, TM.okN x) (w : World) (hl : LiesN w A l) :
    Calls Try.prog 6 #[.slice A l.length cap] w fun e w' => e = .returned (.bool true) ∧ Below w.heap.size w w' := by
  by_cases h : 25 < l.length
  · exact stwice_big hAw A l.length cap h w
  · cases hr : TM.rowB l with
    | false =>
      by_cases h0 : 0 < l.length
      · exact stwice_bad hAw A l.length cap l rfl (by omega) h0 ok hr w hl
      · have e : l = [] := List.eq_nil_of_length_eq_zero (by omega)
        subst e; exact absurd hr (by decide)
    | true => exact stwice_good hAw hSa hSn A l.length cap l rfl (by omega) ok hr w hl
end Go.Proofs.Ytapbeffjnpgglaa.TB
