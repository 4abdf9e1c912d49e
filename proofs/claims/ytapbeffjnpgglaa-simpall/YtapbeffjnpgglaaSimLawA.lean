/-
  The walk of the statement SimpAll, over what the program's own functions answer.
-/
import Derived.Test.YtapbeffjnpgglaaSimLawP
import Derived.Test.YtapbeffjnpgglaaSimRefG
import Derived.Test.YtapbeffjnpgglaaTerLawV
import Derived.Test.YtapbeffjnpgglaaT2
namespace Go.Proofs.Ytapbeffjnpgglaa.TB
open Go.ChangeShapes Go.WideShapes Go.ChangeAt Go.RowKit
open Go.Sort hiding Below
set_option linter.unusedVariables false
set_option maxRecDepth 100000

set_option maxHeartbeats 1600000 in
set_option maxRecDepth 100000 in
theorem sall_big (hAw : Aw12) (A : Option Addr) (n cap : Nat) (i : Int) (hn : 60 < n) (w : World) :
    Calls Try.prog 5 #[.slice A n cap, .int .i64 i] w fun e w' => e = .returned (.bool true) ∧ Below w.heap.size w w' := by
  have hd : decide (60 < (n : Int)) = true := decide_eq_true (by omega)
  have hz : ((n : Int) == 0) = false := beq_eq_false_iff_ne.2 (by omega)
  have HB := hid (Below.refl w.heap.size w)
  have HAw := hid hAw
  clear hn hAw
  go_enter Try.func5, Try.ntmps5
  go_wp2_with fail
  refine (HAw.out _).mono ?_
  rintro e w1 ⟨rfl, hb⟩
  replace HB := stp HB hb
  clear hb
  go_wp2_with fail
  refine (HAw.out _).mono ?_
  rintro e w2 ⟨rfl, hb⟩
  replace HB := stp HB hb
  clear hb
  go_wp2
  go_ret
  exact ⟨rfl, HB.out⟩

theorem plA_len {l : List TM.N} (hr : TM.Row l) (hO : TM.Once l) (ok : ∀ x ∈ l, TM.okN x) : (TM.pl [] l l.length).length = l.length := by
  have hinv := TM.pl_inv hr ok TM.row_nil TM.once_nil (fun x hx => (by cases hx)) (by simp; exact hr.1) l.length (Nat.le_refl _)
  have h1 := hinv.1
  simp only [List.length_nil, Nat.zero_add] at h1
  refine Nat.le_antisymm h1 (TM.pigeon l.length _ (TM.plc [] l) (fun i hi => (hinv.2.2.2.2.1 i hi).1) fun i j hi hj e => ?_)
  have a := TM.into_tr hr ok TM.row_nil TM.once_nil (fun x hx => (by cases hx)) (by simp; exact hr.1) (Nat.le_refl _) i hi
  have b := TM.into_tr hr ok TM.row_nil TM.once_nil (fun x hx => (by cases hx)) (by simp; exact hr.1) (Nat.le_refl _) j hj
  exact TM.tr_inj hr ok hO i j hi hj (by rw [← a, ← b, e])
set_option maxHeartbeats 3200000 in
set_option maxRecDepth 1000000 in
theorem sall_bad (hAw : Aw12) (hSf : SaForm) (hSn : SnOk) (A : Option Addr) (n cap : Nat) (i : Int) (hi : (Lit.int .i64 i).wf = true) (l : List TM.N) (hln : l.length = n) (hn : n ≤ 60) (ok : ∀ x ∈ l, TM.okN x) (hrb : TM.rowB l = false) (w : World) (hl : LiesN w A l) :
    Calls Try.prog 5 #[.slice A n cap, .int .i64 i] w fun e w' => e = .returned (.bool true) ∧ Below w.heap.size w w' := by
  have hd : decide (60 < (n : Int)) = false := decide_eq_false (by omega)
  have HB := hid (Below.refl w.heap.size w)
  have HAw := hid hAw
  have HRt := hid (fun W (h : LiesN W A l) => rrow_any A n cap l hln (by omega) ok W h false hrb)
  have HSa := hid (fun a c W (h : LiesN W a l) => hSf a n c l i hln (by omega) hrb ok hi W h)
  have HSn := hid (fun W (h : LiesN W A l) => hSn A n cap l false hln (by omega) ok (by
    constructor
    · intro h; cases h
    · intro h; rw [TM.row_iff.2 h.1] at hrb; cases hrb) W h)
  have HH := hid (And.intro hln hl)
  clear hAw hSf hSn hln ok hrb hl hi
  go_enter Try.func5, Try.ntmps5
  go_wp2_with fail
  refine (HAw.out _).mono ?_
  rintro e1 w1 ⟨rfl, hb⟩
  replace HB := stp HB hb
  clear hb HAw
  go_wp2_with (at_builtin; refine wpList_append_nodes (by rfl) _ _ rfl w1.heap.size 0 n 0 cap (some ⟨w1.heap.size, 0, none⟩) A [] l rfl (own_new w1) rfl (HH.out.2.below (stp HB (al _ _)).out) HH.out.1 (by omega) (by simp) ?_)
  intro a2 cap2 w2 hown hb
  try simp only [Nat.zero_add, List.nil_append] at hown
  have HO := hid hown.lies
  have hb2 := (al w1 (.cells #[] 58)).trans hb
  replace HB := stp HB hb2
  clear hown hb hb2
  try simp only [Nat.zero_add]
  go_wp2_with fail
  refine (HSa.out _ _ _ HO.out).mono ?_
  rintro e1 w3 ⟨a3, c3, rfl, hb⟩
  replace HB := stp HB hb
  clear hb HSa HO
  go_wp2_with fail
  refine (HRt.out _ (HH.out.2.below HB.out)).mono ?_
  rintro e1 w4 ⟨rfl, hb⟩
  replace HB := stp HB hb
  clear hb HRt
  go_wp2_with fail
  refine (HSn.out _ (HH.out.2.below HB.out)).mono ?_
  rintro e1 w5 ⟨rfl, hb⟩
  replace HB := stp HB hb
  clear hb HSn
  go_wp2
  go_ret
  exact ⟨rfl, HB.out⟩
set_option maxHeartbeats 3200000 in
set_option maxRecDepth 1000000 in
theorem sall_out (hAw : Aw12) (hSr : SaRange) (hSn : SnOk) (A : Option Addr) (n cap : Nat) (i : Int) (hi : (Lit.int .i64 i).wf = true) (ho : i < 0 ∨ (n : Int) ≤ i) (l : List TM.N) (hln : l.length = n) (hn : n ≤ 60) (ok : ∀ x ∈ l, TM.okN x) (hrb : TM.rowB l = true) (w : World) (hl : LiesN w A l) :
    Calls Try.prog 5 #[.slice A n cap, .int .i64 i] w fun e w' => e = .returned (.bool true) ∧ Below w.heap.size w w' := by
  have hd : decide (60 < (n : Int)) = false := decide_eq_false (by omega)
  have HB := hid (Below.refl w.heap.size w)
  have HAw := hid hAw
  have hr := TM.row_iff.1 hrb
  obtain ⟨q, hq⟩ : ∃ q : Bool, q = true ↔ TM.Norm l := ⟨@decide (TM.Norm l) (Classical.propDecidable _), @decide_eq_true_iff _ (Classical.propDecidable _)⟩
  have hqq : (q != q) = false := by simp
  have HRt := hid (fun W (h : LiesN W A l) => rrow_any A n cap l hln (by omega) ok W h true hrb)
  have HSa := hid (fun a c W (h : LiesN W a l) => hSr a n c l i hln (by omega) hr ok hi ho W h)
  have HSn := hid (fun W (h : LiesN W A l) => hSn A n cap l q hln (by omega) ok hq W h)
  have HRn := hid (fun W (h : LiesN W A l) => rnormal A n cap l hln (by omega) ok q hq W h)
  have HH := hid (And.intro hln hl)
  have hcase : (decide (i < 0) = true) ∨ (decide (i < 0) = false ∧ decide ((n : Int) ≤ i) = true) := by
    by_cases h : i < 0
    · exact .inl (decide_eq_true h)
    · exact .inr ⟨decide_eq_false h, decide_eq_true (by omega)⟩
  clear hAw hSr hSn hln ok hrb hl hi ho hq hr
  go_enter Try.func5, Try.ntmps5
  go_wp2_with fail
  refine (HAw.out _).mono ?_
  rintro e1 w1 ⟨rfl, hb⟩
  replace HB := stp HB hb
  clear hb HAw
  go_wp2_with (at_builtin; refine wpList_append_nodes (by rfl) _ _ rfl w1.heap.size 0 n 0 cap (some ⟨w1.heap.size, 0, none⟩) A [] l rfl (own_new w1) rfl (HH.out.2.below (stp HB (al _ _)).out) HH.out.1 (by omega) (by simp) ?_)
  intro a2 cap2 w2 hown hb
  try simp only [Nat.zero_add, List.nil_append] at hown
  have HO := hid hown.lies
  have hb2 := (al w1 (.cells #[] 58)).trans hb
  replace HB := stp HB hb2
  clear hown hb hb2
  try simp only [Nat.zero_add]
  go_wp2_with fail
  refine (HSa.out _ _ _ HO.out).mono ?_
  rintro e1 w3 ⟨a3, c3, rfl, hb⟩
  replace HB := stp HB hb
  clear hb HSa HO
  go_wp2_with fail
  refine (HRt.out _ (HH.out.2.below HB.out)).mono ?_
  rintro e1 w4 ⟨rfl, hb⟩
  replace HB := stp HB hb
  clear hb HRt
  go_wp2_with fail
  refine (HSn.out _ (HH.out.2.below HB.out)).mono ?_
  rintro e1 w5 ⟨rfl, hb⟩
  replace HB := stp HB hb
  clear hb HSn
  go_wp2_with fail
  refine (HRn.out _ (HH.out.2.below HB.out)).mono ?_
  rintro e1 w6 ⟨rfl, hb⟩
  replace HB := stp HB hb
  clear hb HRn
  rcases hcase with d1 | ⟨d1, d2⟩
  all_goals
    go_wp2
    go_ret
    exact ⟨rfl, HB.out⟩
set_option maxHeartbeats 6400000 in
set_option maxRecDepth 1000000 in
theorem sall_good (hAw : Aw12) (hSa : SaOk) (hSn : SnOk) (A : Option Addr) (n cap i : Nat) (hin : i < n) (l : List TM.N) (hln : l.length = n) (hn : n ≤ 60) (ok : ∀ x ∈ l, TM.okN x) (hrb : TM.rowB l = true) (w : World) (hl : LiesN w A l) :
    Calls Try.prog 5 #[.slice A n cap, .int .i64 i] w fun e w' => e = .returned (.bool true) ∧ Below w.heap.size w w' := by
  have hd : decide (60 < (n : Int)) = false := decide_eq_false (by omega)
  have HB := hid (Below.refl w.heap.size w)
  have HAw := hid hAw
  have hr := TM.row_iff.1 hrb
  obtain ⟨q, hq⟩ : ∃ q : Bool, q = true ↔ TM.Norm l := ⟨@decide (TM.Norm l) (Classical.propDecidable _), @decide_eq_true_iff _ (Classical.propDecidable _)⟩
  have hqq : (q != q) = false := by simp
  have HRt := hid (fun W (h : LiesN W A l) => rrow_any A n cap l hln (by omega) ok W h true hrb)
  have HSa := hid (fun a c W (h : LiesN W a l) => hSa a n c l i hln (by omega) hr ok hin W h)
  have HSn := hid (fun W (h : LiesN W A l) => hSn A n cap l q hln (by omega) ok hq W h)
  have HRn := hid (fun W (h : LiesN W A l) => rnormal A n cap l hln (by omega) ok q hq W h)
  have HRa := hid (fun W (h : LiesN W A l) => rall A n cap l hln (by omega) hr ok W h)
  have HH := hid (And.intro hln hl)
  have d1 : decide ((n : Int) ≤ (i : Int)) = false := decide_eq_false (by omega)
  have d1' : (i : Int) < (n : Int) := by omega
  clear hAw hSa hSn hln ok hrb hl hq hr
  go_enter Try.func5, Try.ntmps5
  go_wp2_with fail
  refine (HAw.out _).mono ?_
  rintro e1 w1 ⟨rfl, hb⟩
  replace HB := stp HB hb
  clear hb HAw
  go_wp2_with (at_builtin; refine wpList_append_nodes (by rfl) _ _ rfl w1.heap.size 0 n 0 cap (some ⟨w1.heap.size, 0, none⟩) A [] l rfl (own_new w1) rfl (HH.out.2.below (stp HB (al _ _)).out) HH.out.1 (by omega) (by simp) ?_)
  intro a2 cap2 w2 hown hb
  try simp only [Nat.zero_add, List.nil_append] at hown
  have HO := hid hown.lies
  have hb2 := (al w1 (.cells #[] 58)).trans hb
  replace HB := stp HB hb2
  clear hown hb hb2
  try simp only [Nat.zero_add]
  go_wp2_with fail
  refine (HSa.out _ _ _ HO.out).mono ?_
  rintro e1 w3 ⟨a, m, c, out, p, rfl, hlen, hm4, hlo, hal, hb⟩
  replace HB := stp HB hb
  have HA := hid (And.intro hal (And.intro hlen hm4))
  have HX := hid hlo
  have hpm : p < m := by rw [← hlen]; exact hal.lt
  have hmb : m ≤ 240 := by omega
  have i5 : (p : Int) < (m : Int) := by omega
  have i6 : decide ((m : Int) ≤ (p : Int)) = false := decide_eq_false (by omega)
  have HRo := hid (fun W (h : LiesN W a out) => rrow_any a m c out hlen (by omega) hal.ok W h true (TM.row_iff.2 hal.row))
  have HIo := hid (fun b o W (h : LyN W b o out) => rin_any b o m c p out hlen hal.row hal.ok hpm W h)
  clear hb HSa HO hlen hm4 hlo hal
  go_wp2_with fail
  refine (HRt.out _ (HH.out.2.below HB.out)).mono ?_
  rintro e1 w4 ⟨rfl, hb⟩
  replace HB := stp HB hb
  replace HX := hid (HX.out.below hb)
  clear hb HRt
  go_wp2_with fail
  refine (HSn.out _ (HH.out.2.below HB.out)).mono ?_
  rintro e1 w5 ⟨rfl, hb⟩
  replace HB := stp HB hb
  replace HX := hid (HX.out.below hb)
  clear hb HSn
  go_wp2_with fail
  refine (HRn.out _ (HH.out.2.below HB.out)).mono ?_
  rintro e1 w6 ⟨rfl, hb⟩
  replace HB := stp HB hb
  replace HX := hid (HX.out.below hb)
  clear hb HRn
  go_wp2_with fail
  refine (HRo.out _ HX.out).mono ?_
  rintro e1 w7 ⟨rfl, hb⟩
  replace HB := stp HB hb
  replace HX := hid (HX.out.below hb)
  clear hb HRo
  obtain ⟨b2, o2, rfl, hly2⟩ := HX.out.ly (by rw [HA.out.2.1]; omega)
  have HLy := hid hly2
  clear hly2
  go_wp2_with fail
  refine (HIo.out b2 o2 _ HLy.out).mono ?_
  rintro e1 w8 ⟨gi, rfl, hRi, hb, _⟩
  have HR8 := hid (show Row w8 gi m (fun j => .bool (TM.inT out p j)) ∧ Below w.heap.size w w8 ∧ LyN w8 b2 o2 out from ⟨hRi, (stp HB hb).out, HLy.out.below hb⟩)
  clear hb hRi HIo HX HLy HB
  go_wp2
  go_loopw [97] (fun jv wr => ∃ s : Nat, s ≤ m ∧ jv = .int .i64 s ∧ wr = w8) (fun jv _ => m - (intOf jv).toNat)
  case atStart => exact ⟨0, Nat.zero_le _, rfl, rfl⟩
  case round =>
    obtain ⟨s, hs, rfl, rfl⟩ := hrel
    by_cases hs2 : s < m
    · have i3 : (s : Int) < (m : Int) := by omega
      have cr := HR8.out.1.cell s hs2
      simp only [HA.out.1.all s (by rw [HA.out.2.1]; exact hs2)] at cr
      go_wp2
      go_roundw
      case rel => exact ⟨s + 1, by omega, by go_num, by first | trivial | rfl⟩
      case measure => simp [intOf]; omega
    · obtain rfl : s = m := by omega
      go_wp2_with fail
      refine (HRa.out _ (HH.out.2.below HR8.out.2.1)).mono ?_
      rintro e1 w9 ⟨a3, m3, c3, P, pc, rfl, hO, hRw, hb, hblk, hall⟩
      have HR9 := hid (show OwnN w9 wr.heap.size a3 m3 c3 P ∧ Row w9 wr.heap.size n (fun j => .int .i64 ((pc j : Nat) : Int)) ∧ Below w.heap.size w w9 ∧ LyN w9 b2 o2 out ∧ (∀ b, blk a3 = some b → wr.heap.size < b) ∧ TM.AllK l n P pc ∧ b2 < wr.heap.size from
        ⟨hO, hRw, (stp (hid HR8.out.2.1) hb).out, HR8.out.2.2.below hb, hblk, hall, HR8.out.2.2.1⟩)
      clear hO hRw hb hblk hall HRa
      have hP := HR9.out.2.2.2.2.2.1
      have hPl : P.length ≤ 4 * n := hP.len
      have hnil : ([] : List TM.N).length + s ≤ 65536 := by have := HA.out.2.2; simp; omega
      have HI1 := hid (rinto_any w9.heap.size 0 0 none [] (some ⟨b2, o2, none⟩) s c out HA.out.2.1 HA.out.1.row HA.out.1.ok TM.row_nil TM.once_nil (fun x hx => (by cases hx)) hnil w9 HR9.out.2.2.2.1.lies (Nat.le_refl _) (fun _ B hB => by
        injection hB with hB; subst hB; exact HR9.out.2.2.2.1.1) (OwnN.nil _ _))
      go_wp2_with fail
      refine HI1.out.mono ?_
      rintro e1 w10 ⟨a4, m4, c4, rfl, hO4, _, hg, _⟩
      have hb10 := gbelow hg (Nat.le_refl _) (fun k hk => by cases hk)
      obtain rfl : m4 = s := by
        have h1 := plA_len HA.out.1.row HA.out.1.once HA.out.1.ok
        rw [HA.out.2.1] at h1
        rw [← hO4.len, h1]
      have HR10 := hid (show OwnN w10 wr.heap.size a3 m3 c3 P ∧ Row w10 wr.heap.size n (fun j => .int .i64 ((pc j : Nat) : Int)) ∧ Below w.heap.size w w10 ∧ LyN w10 b2 o2 out from
        ⟨HR9.out.1.below hb10, HR9.out.2.1.below hb10, (stp (hid HR9.out.2.2.1) hb10).out, HR9.out.2.2.2.1.below hb10⟩)
      have hsz : wr.heap.size ≤ w10.heap.size := Nat.le_of_lt HR10.out.2.1.lt
      have HI2 := hid (rinto_any wr.heap.size m3 c3 a3 P (some ⟨b2, o2, none⟩) m4 c out HA.out.2.1 HA.out.1.row HA.out.1.ok hP.row hP.once hP.ok (by have := HA.out.2.2; omega) w10 HR10.out.2.2.2.lies hsz (fun _ B hB => by
        injection hB with hB; subst hB; exact HR9.out.2.2.2.2.2.2) HR10.out.1)
      have hkey : TM.plc P out p = pc i := by
        have h1 := hP.at_ i hin
        exact (TM.plc_of_tr HA.out.1.row HA.out.1.ok hP.row hP.once hP.ok (by rw [HA.out.2.1]; have := HA.out.2.2; omega) HA.out.1.lt h1.1).2 (by rw [HA.out.1.tr, h1.2])
      clear hO4 hg hb10 HI1 hP hnil hPl hsz
      go_wp2_with fail
      refine HI2.out.mono ?_
      rintro e1 w11 ⟨a5, m5, c5, rfl, _, hRp, hg, _⟩
      have hne : some wr.heap.size ≠ blk a3 := fun e => by have := HR9.out.2.2.2.2.1 _ e.symm; omega
      have hw8 := HR8.out.2.1.size
      have HR11 := hid (show Below w.heap.size w w11 ∧ Row w11 wr.heap.size n (fun j => .int .i64 ((pc j : Nat) : Int)) ∧ Row w11 w10.heap.size m4 (fun j => .int .i64 ((TM.plc P out j : Nat) : Int)) from
        ⟨HR10.out.2.2.1.grown hg HR10.out.2.2.1.size (fun q hq => by have := HR9.out.2.2.2.2.1 q hq; omega), HR10.out.2.1.grown hg hne, hRp⟩)
      clear hRp hg hne hw8 HI2 HR10 HR9 HR8
      have x1 := HR11.out.2.1.cell i hin
      have x2 := HR11.out.2.2.cell p hpm
      rw [hkey] at x2
      obtain ⟨z, hz⟩ : ∃ z, pc i = z := ⟨_, rfl⟩
      rw [hz] at x1 x2
      have d3 : ((z : Int) == (z : Int)) = true := by simp
      have d4 : ((m4 : Int) == (m4 : Int)) = true := by simp
      clear hz hkey
      go_wp2
      go_quiet (fail)
      go_wp2
      go_ret
      exact ⟨rfl, bdrew HR11.out.1 _⟩
theorem sall_law (hAw : Aw12) (hSa : SaOk) (hSf : SaForm) (hSr : SaRange) (hSn : SnOk) (A : Option Addr) (cap : Nat) (l : List TM.N) (ok : ∀ x ∈ l, TM.okN x) (i : Int) (hi : (Lit.int .i64 i).wf = true) (w : World) (hl : LiesN w A l) :
    Calls Try.prog 5 #[.slice A l.length cap, .int .i64 i] w fun e w' => e = .returned (.bool true) ∧ Below w.heap.size w w' := by
  by_cases h : 60 < l.length
  · exact sall_big hAw A l.length cap i h w
  · cases hr : TM.rowB l with
    | false => exact sall_bad hAw hSf hSn A l.length cap i hi l rfl (by omega) ok hr w hl
    | true =>
      by_cases ho : i < 0 ∨ (l.length : Int) ≤ i
      · exact sall_out hAw hSr hSn A l.length cap i hi ho l rfl (by omega) ok hr w hl
      · obtain ⟨k, rfl⟩ := Int.eq_ofNat_of_zero_le (show 0 ≤ i by omega)
        exact sall_good hAw hSa hSn A l.length cap k (by omega) l rfl (by omega) ok hr w hl
end Go.Proofs.Ytapbeffjnpgglaa.TB
