/-
  The walk of the statement SimpSize, over what the program's own functions answer.
-/
import Derived.Test.YtapbeffjnpgglaaSimLawP
import Derived.Test.YtapbeffjnpgglaaT3
import Derived.Test.YtapbeffjnpgglaaT2
import Derived.Deep.RegionHeldLaw
namespace Go.Proofs.Ytapbeffjnpgglaa.TB
open Go.ChangeShapes Go.WideShapes Go.ChangeAt Go.RowKit
open Go.Sort hiding Below
end Go.Proofs.Ytapbeffjnpgglaa.TB
namespace Go.Proofs.Ytapbeffjnpgglaa.TM
theorem andNot_sub (a b : Nat) (hb : b < 65536) (h : ∀ w, a.testBit w = true → b.testBit w = true) : a &&& (65535 - b) = 0 := by
  apply Nat.eq_of_testBit_eq
  intro i
  rw [Nat.testBit_and, show 65535 - b = 2 ^ 16 - (b + 1) by omega, Nat.testBit_two_pow_sub_succ hb, Nat.zero_testBit]
  cases e : a.testBit i with
  | false => rfl
  | true => rw [h i e]; simp
end Go.Proofs.Ytapbeffjnpgglaa.TM
namespace Go.Proofs.Ytapbeffjnpgglaa.TB
open Go.ChangeShapes Go.WideShapes Go.ChangeAt Go.RowKit
open Go.Sort hiding Below
set_option linter.unusedVariables false
set_option maxRecDepth 100000

set_option maxHeartbeats 1600000 in
set_option maxRecDepth 100000 in
theorem ssize_big (hAw : Aw12) (A : Option Addr) (n cap : Nat)  (hn : 40 < n) (w : World) :
    Calls Try.prog 8 #[.slice A n cap] w fun e w' => e = .returned (.bool true) ∧ Below w.heap.size w w' := by
  have hd : decide (40 < (n : Int)) = true := decide_eq_true (by omega)
  have hz : ((n : Int) == 0) = false := beq_eq_false_iff_ne.2 (by omega)
  have HB := hid (Below.refl w.heap.size w)
  have HAw := hid hAw
  clear hn hAw
  go_enter Try.func8, Try.ntmps8
  go_wp2_with fail
  refine (HAw.out _).mono ?_
  rintro e w1 ⟨rfl, hb⟩
  replace HB := stp HB hb
  clear hb
  go_wp2_with fail
  refine (HAw.out _).mono ?_
  rintro e w2 ⟨rfl, hb⟩
  replace HB := stp HB hb
  clear hb
  go_wp2
  go_ret
  exact ⟨rfl, HB.out⟩
set_option maxHeartbeats 1600000 in
set_option maxRecDepth 100000 in
theorem ssize_bad (hAw : Aw12) (A : Option Addr) (n cap : Nat)  (l : List TM.N) (hln : l.length = n) (hn : n ≤ 40) (h0 : 0 < n) (ok : ∀ x ∈ l, TM.okN x) (hr : TM.rowB l = false) (w : World) (hl : LiesN w A l) :
    Calls Try.prog 8 #[.slice A n cap] w fun e w' => e = .returned (.bool true) ∧ Below w.heap.size w w' := by
  have hd : decide (40 < (n : Int)) = false := decide_eq_false (by omega)
  have hz : ((n : Int) == 0) = false := beq_eq_false_iff_ne.2 (by omega)
  have HB := hid (Below.refl w.heap.size w)
  have HAw := hid hAw
  have HRt := hid (fun W (h : LiesN W A l) => rrow_any A n cap l hln (by omega) ok W h false hr)
  have HL := hid hl
  clear hn hAw hln ok hr hl h0
  go_enter Try.func8, Try.ntmps8
  go_wp2_with fail
  refine (HAw.out _).mono ?_
  rintro e w1 ⟨rfl, hb⟩
  replace HB := stp HB hb
  clear hb
  go_wp2_with fail
  refine (HRt.out _ (HL.out.below HB.out)).mono ?_
  rintro e w2 ⟨rfl, hb⟩
  replace HB := stp HB hb
  clear hb
  go_wp2_with fail
  refine (HAw.out _).mono ?_
  rintro e w3 ⟨rfl, hb⟩
  replace HB := stp HB hb
  clear hb
  go_wp2
  go_ret
  exact ⟨rfl, HB.out⟩

set_option maxHeartbeats 6400000 in
set_option maxRecDepth 1000000 in
theorem ssize_good (hAw : Aw12) (hSa : SaOk) (A : Option Addr) (n cap : Nat) (l : List TM.N) (hln : l.length = n) (hn : n ≤ 40) (ok : ∀ x ∈ l, TM.okN x) (hrb : TM.rowB l = true) (w : World) (hl : LiesN w A l) :
    Calls Try.prog 8 #[.slice A n cap] w fun e w' => e = .returned (.bool true) ∧ Below w.heap.size w w' := by
  have hd : decide (40 < (n : Int)) = false := decide_eq_false (by omega)
  have hr := TM.row_iff.1 hrb
  have HB := hid (Below.refl w.heap.size w)
  have HAw := hid hAw
  have HRt := hid (fun W (h : LiesN W A l) => rrow_any A n cap l hln (by omega) ok W h true hrb)
  have HZs := hid (fun W (h : LiesN W A l) => rsizes_any A n cap l hln hr ok W h)
  have HSa := hid (fun (k : Nat) (hk : k < n) W (h : LiesN W A l) => hSa A n cap l k hln (by omega) hr ok hk W h)
  have HUs := hid (fun b o (k : Nat) (hk : k < n) W (h : LyN W b o l) => ruses_any b o n cap k l hln hr ok hk W h)
  have HH := hid (And.intro hln (And.intro hl (And.intro hr ok)))
  clear hAw hSa hln ok hrb hr hl
  go_enter Try.func8, Try.ntmps8
  go_wp2_with fail
  refine (HAw.out _).mono ?_
  rintro e w1 ⟨rfl, hb⟩
  replace HB := stp HB hb
  clear hb HAw
  go_wp2_with fail
  refine (HRt.out _ (HH.out.2.1.below HB.out)).mono ?_
  rintro e w2 ⟨rfl, hb⟩
  replace HB := stp HB hb
  clear hb HRt
  go_wp2_with fail
  refine (HZs.out _ (HH.out.2.1.below HB.out)).mono ?_
  rintro e w3 ⟨g, rfl, hR, hb, _⟩
  have HM := hid (And.intro hR (stp HB hb).out)
  clear hb HB hR HZs
  go_wp2
  go_loopw [25] (fun iv wr => ∃ (k : Nat), k ≤ n ∧ iv = .int .i64 k ∧ Hid (Row wr g n (fun j => .int .u64 ((TM.sz l j : Nat) : Int)) ∧ Below w.heap.size w wr)) (fun iv _ => n - (intOf iv).toNat)
  case atStart => exact ⟨0, Nat.zero_le _, rfl, HM.out⟩
  case round =>
    clear HM
    obtain ⟨k, hk, rfl, HR⟩ := hrel
    by_cases hlt : k < n
    · have i2 : (k : Int) < (n : Int) := by omega
      obtain ⟨b, o, rfl, hly⟩ := HH.out.2.1.ly (by rw [HH.out.1]; omega)
      have HL := hid hly
      have HS1 := hid (HSa.out k hlt)
      have HU1 := hid (HUs.out b o k hlt)
      clear hly
      go_wp2_with fail
      refine (HS1.out _ (HH.out.2.1.below HR.out.2)).mono ?_
      rintro e w4 ⟨a, m, c, out, p, rfl, hlen, hm4, hlo, hal, hb⟩
      have HR4 := hid (show Row w4 g n (fun j => .int .u64 ((TM.sz l j : Nat) : Int)) ∧ Below w.heap.size w w4 ∧ LiesN w4 a out from ⟨HR.out.1.below hb, (stp (hid HR.out.2) hb).out, hlo⟩)
      have hkl : k < l.length := by rw [HH.out.1]; exact hlt
      have hot := TM.tr_okT HH.out.2.2.1 HH.out.2.2.2 k hkl
      have HRo := hid (fun W (h : LiesN W a out) => rrow_any a m c out hlen (by have := hal.row.1; omega) hal.ok W h true (TM.row_iff.2 hal.row))
      have HZo := hid (fun W (h : LiesN W a out) => rsizes_any a m c out hlen hal.row hal.ok W h)
      have hpm : p < m := by rw [← hlen]; exact hal.lt
      have HUo := hid (fun b o W (h : LyN W b o out) => ruses_any b o m c p out hlen hal.row hal.ok hpm W h)
      have hszs : TM.sz out p ≤ TM.sz l k := by
        rw [TM.sz_tr hal.row p hal.lt, TM.sz_tr HH.out.2.2.1 k hkl, hal.tr]
        have := TM.anew_sz _ hot
        omega
      have hand : TM.uses out p &&& (65535 - TM.uses l k) = 0 := TM.andNot_sub _ _ (TM.usesK_lt HH.out.2.2.1 k _ (Nat.le_refl _)) (fun w hw => by
        have h1 := (TM.uses_tr hal.row hal.ok hal.lt w).1 hw
        rw [hal.tr] at h1
        exact (TM.uses_tr HH.out.2.2.1 HH.out.2.2.2 hkl w).2 (TM.anew_has _ hot h1))
      have hbu : bits .andNot .u16 ((TM.uses out p : Nat) : Int) ((TM.uses l k : Nat) : Int) = 0 := by
        have := u16_andNot_nat (TM.uses out p) (TM.uses l k) (TM.usesK_lt hal.row p _ (Nat.le_refl _)) (TM.usesK_lt HH.out.2.2.1 k _ (Nat.le_refl _))
        rw [this, hand]; rfl
      have hml : 0 < out.length := by have := hal.lt; omega
      have i5 : (p : Int) < (m : Int) := by omega
      have i6 : decide ((m : Int) ≤ (p : Int)) = false := decide_eq_false (by omega)
      clear hb hlo HR hot hand hkl hm4 hal
      obtain ⟨x, hx⟩ : ∃ x, TM.uses out p = x := ⟨_, rfl⟩
      obtain ⟨y, hy⟩ : ∃ y, TM.uses l k = y := ⟨_, rfl⟩
      obtain ⟨z, hz⟩ : ∃ z, TM.sz l k = z := ⟨_, rfl⟩
      obtain ⟨z', hz'⟩ : ∃ z', TM.sz out p = z' := ⟨_, rfl⟩
      rw [hx] at HUo hbu
      rw [hy] at HU1 hbu
      rw [hz, hz'] at hszs
      have d1 : decide ((z : Int) < (z' : Int)) = false := decide_eq_false (by omega)
      have d1' : decide (z < z') = false := decide_eq_false (by omega)
      go_wp2_with fail
      refine (HRo.out _ HR4.out.2.2).mono ?_
      rintro e w5 ⟨rfl, hb⟩
      have HR5 := hid (show Row w5 g n (fun j => .int .u64 ((TM.sz l j : Nat) : Int)) ∧ Below w.heap.size w w5 ∧ LiesN w5 a out from ⟨HR4.out.1.below hb, (stp (hid HR4.out.2.1) hb).out, HR4.out.2.2.below hb⟩)
      clear hb HR4 HRo
      obtain ⟨b2, o2, rfl, hly2⟩ := HR5.out.2.2.ly hml
      have hLd := hly2.below (Below.refl _ _).drew
      have HLo := hid hly2
      have HLn := hid (HL.out.below HR5.out.2.1)
      have cz := HR5.out.1.cell k hlt
      simp only [hz] at cz
      have hgl := HR5.out.1.lt
      have HZ1 := hid (HZo.out (World.drew w5) hLd.lies)
      clear hLd hly2 hml HZo HS1
      go_wp2
      refine wp_region_held_drew (S := fun w' => (∀ b o, b < w5.heap.size → w'.cell? ⟨b, o, none⟩ = w5.cell? ⟨b, o, none⟩) ∧ Below w5.heap.size w5 w') (by kernel_rfl) ?_ (fun hHeld => ?_)
      · ((try dsimp only); (go_split_ands; refine bkeepS ?_; first | exact (Below.refl _ _).drew | assumption | exact Below.trans (by assumption) (Below.mono (by assumption) (Below.size (by assumption)))))
      change wpAnyH _ _ _ _ _ 20 #[false, false, false, false, false, false, false, false, false, false, false, false, false, false, false, false, false, false, false, false] _ _
      refine wpAnyH_take (i := 0) (v := ?_) (by simp only [List.getElem?_toArray, List.getElem?_cons_zero]; rfl) (by kernel_rfl) (by kernel_rfl) (by kernel_rfl) (by exact fun _ _ _ h => h) (Or.inl ⟨by rfl, ?_⟩) (by assumption) ?_
      rotate_left
      · (intro w hSw; (try dsimp only at hSw); go_simp; try with_reducible rfl)
      try simp only [Act.put, List.setIfInBounds_toArray, List.set_cons_zero, List.set_cons_succ]
      refine wpAnyH_take (i := 2) (v := ?_) (by simp only [List.getElem?_toArray, List.getElem?_cons_succ, List.getElem?_cons_zero]; rfl) (by kernel_rfl) (by kernel_rfl) (by kernel_rfl) (by exact fun _ _ _ h => h) (Or.inl ⟨by rfl, ?_⟩) (by assumption) ?_
      rotate_left
      · (intro w hSw; (try dsimp only at hSw); go_simp; try with_reducible rfl)
      try simp only [Act.put, List.setIfInBounds_toArray, List.set_cons_zero, List.set_cons_succ]
      refine wpAnyH_take (i := 5) (v := ?_) (by simp only [List.getElem?_toArray, List.getElem?_cons_succ, List.getElem?_cons_zero]; rfl) (by kernel_rfl) (by kernel_rfl) (by kernel_rfl) (by exact fun _ _ _ h => h) (Or.inl ⟨by rfl, ?_⟩) (by assumption) ?_
      rotate_left
      · (intro w hSw; (try dsimp only at hSw); go_simp; try with_reducible rfl)
      try simp only [Act.put, List.setIfInBounds_toArray, List.set_cons_zero, List.set_cons_succ]
      refine wpAnyH_take (i := 6) (v := ?_) (by simp only [List.getElem?_toArray, List.getElem?_cons_succ, List.getElem?_cons_zero]; rfl) (by kernel_rfl) (by kernel_rfl) (by kernel_rfl) (by exact fun _ _ _ h => h) (Or.inl ⟨by rfl, ?_⟩) (by assumption) ?_
      rotate_left
      · (intro w hSw; (try dsimp only at hSw); go_simp; try with_reducible rfl)
      try simp only [Act.put, List.setIfInBounds_toArray, List.set_cons_zero, List.set_cons_succ]
      refine wpAnyH_take (i := 7) (v := ?_) (by simp only [List.getElem?_toArray, List.getElem?_cons_succ, List.getElem?_cons_zero]; rfl) (by kernel_rfl) (by kernel_rfl) (by kernel_rfl) (by exact fun _ _ _ h => h) (Or.inl ⟨by rfl, ?_⟩) (by assumption) ?_
      rotate_left
      · (intro w hSw; (try dsimp only at hSw); go_simp; try with_reducible rfl)
      try simp only [Act.put, List.setIfInBounds_toArray, List.set_cons_zero, List.set_cons_succ]
      refine wpAnyH_take (i := 8) (v := ?_) (by simp only [List.getElem?_toArray, List.getElem?_cons_succ, List.getElem?_cons_zero]; rfl) (by kernel_rfl) (by kernel_rfl) (by kernel_rfl) (by exact fun _ _ _ h => h) (Or.inl ⟨by rfl, ?_⟩) (by assumption) ?_
      rotate_left
      · (intro w hSw; (try dsimp only at hSw); go_simp; try with_reducible rfl)
      try simp only [Act.put, List.setIfInBounds_toArray, List.set_cons_zero, List.set_cons_succ]
      refine wpAnyH_ready (rs := [1]) (by kernel_rfl) (by simp) ?_
      refine AllReadyH.cons rfl (fun K hK => ?_) AllReadyH.nil
      go_simp
      go_wp2_with (go_at_call 26; refine HZ1.out.mono ?_; rintro e w6 ⟨gi, rfl, hRi, hB, hgi⟩; have cp := hRi.cell p hpm; simp only [hz'] at cp; have hgi2 := hRi.lt; clear hRi)
      try dsimp only
      refine hK.out _ _ ?_ (fun hHeld => ?_)
      · ((try dsimp only); first | assumption | (go_split_ands; refine bkeepS ?_; first | exact (Below.refl _ _).drew | assumption | exact Below.trans (by assumption) (Below.mono (by assumption) (Below.size (by assumption)))))
      clear hK K
      refine wpAnyH_take (i := 3) (v := ?_) (by simp only [List.getElem?_toArray, List.getElem?_cons_succ, List.getElem?_cons_zero]; rfl) (by kernel_rfl) (by kernel_rfl) (by kernel_rfl) (by exact fun _ _ _ h => h) (Or.inl ⟨by rfl, ?_⟩) (by assumption) ?_
      rotate_left
      · (intro w hSw; (try dsimp only at hSw); go_simp; try with_reducible rfl)
      try simp only [Act.put, List.setIfInBounds_toArray, List.set_cons_zero, List.set_cons_succ]
      refine wpAnyH_ready (rs := [4]) (by kernel_rfl) (by simp) ?_
      refine AllReadyH.cons rfl (fun K hK => ?_) AllReadyH.nil
      go_simp
      try dsimp only
      refine hK.out _ _ ?_ (fun hHeld => ?_)
      · ((try dsimp only); first | assumption | (go_split_ands; refine bkeepS ?_; first | exact (Below.refl _ _).drew | assumption | exact Below.trans (by assumption) (Below.mono (by assumption) (Below.size (by assumption)))))
      clear hK K
      refine wpAnyH_take (i := 9) (v := ?_) (by simp only [List.getElem?_toArray, List.getElem?_cons_succ, List.getElem?_cons_zero]; rfl) (by kernel_rfl) (by kernel_rfl) (by kernel_rfl) (by exact fun _ _ _ h => h) (Or.inl ⟨by rfl, ?_⟩) (by assumption) ?_
      rotate_left
      · (intro w hSw; (try dsimp only at hSw); go_simp; try with_reducible rfl)
      try simp only [Act.put, List.setIfInBounds_toArray, List.set_cons_zero, List.set_cons_succ]
      refine wpAnyH_take (i := 10) (v := ?_) (by simp only [List.getElem?_toArray, List.getElem?_cons_succ, List.getElem?_cons_zero]; rfl) (by kernel_rfl) (by kernel_rfl) (by kernel_rfl) (by exact fun _ _ _ h => h) (Or.inl ⟨by rfl, ?_⟩) (by assumption) ?_
      rotate_left
      · (intro w hSw; (try dsimp only at hSw); go_simp; try with_reducible rfl)
      try simp only [Act.put, List.setIfInBounds_toArray, List.set_cons_zero, List.set_cons_succ]
      refine wpAnyH_take (i := 11) (v := ?_) (by simp only [List.getElem?_toArray, List.getElem?_cons_succ, List.getElem?_cons_zero]; rfl) (by kernel_rfl) (by kernel_rfl) (by kernel_rfl) (by exact fun _ _ _ h => h) (Or.inl ⟨by rfl, ?_⟩) (by assumption) ?_
      rotate_left
      · (intro w hSw; (try dsimp only at hSw); go_simp; try with_reducible rfl)
      try simp only [Act.put, List.setIfInBounds_toArray, List.set_cons_zero, List.set_cons_succ]
      refine wpAnyH_take (i := 12) (v := ?_) (by simp only [List.getElem?_toArray, List.getElem?_cons_succ, List.getElem?_cons_zero]; rfl) (by kernel_rfl) (by kernel_rfl) (by kernel_rfl) (by exact fun _ _ _ h => h) (Or.inl ⟨by rfl, ?_⟩) (by assumption) ?_
      rotate_left
      · (intro w hSw; (try dsimp only at hSw); go_simp; try with_reducible rfl)
      try simp only [Act.put, List.setIfInBounds_toArray, List.set_cons_zero, List.set_cons_succ]
      refine wpAnyH_take (i := 14) (v := ?_) (by simp only [List.getElem?_toArray, List.getElem?_cons_succ, List.getElem?_cons_zero]; rfl) (by kernel_rfl) (by kernel_rfl) (by kernel_rfl) (by exact fun _ _ _ h => h) (Or.inl ⟨by rfl, ?_⟩) (by assumption) ?_
      rotate_left
      · (intro w hSw; (try dsimp only at hSw); go_simp; try with_reducible rfl)
      try simp only [Act.put, List.setIfInBounds_toArray, List.set_cons_zero, List.set_cons_succ]
      refine wpAnyH_take (i := 15) (v := ?_) (by simp only [List.getElem?_toArray, List.getElem?_cons_succ, List.getElem?_cons_zero]; rfl) (by kernel_rfl) (by kernel_rfl) (by kernel_rfl) (by exact fun _ _ _ h => h) (Or.inl ⟨by rfl, ?_⟩) (by assumption) ?_
      rotate_left
      · (intro w hSw; (try dsimp only at hSw); go_simp; try with_reducible rfl)
      try simp only [Act.put, List.setIfInBounds_toArray, List.set_cons_zero, List.set_cons_succ]
      refine wpAnyH_ready (rs := [13]) (by kernel_rfl) (by simp) ?_
      refine AllReadyH.cons rfl (fun K hK => ?_) AllReadyH.nil
      go_simp
      go_wp2_with (go_at_call_of 25 (Value.int IntKind.i64 (p : Int)); refine (HUo.out b2 o2 _ (HLo.out.below (by go_split_ands; assumption))).mono ?_; rintro e w7 ⟨rfl, hB⟩)
      try dsimp only
      refine hK.out _ _ ?_ (fun hHeld => ?_)
      · ((try dsimp only); first | assumption | (go_split_ands; refine bkeepS ?_; first | exact (Below.refl _ _).drew | assumption | exact Below.trans (by assumption) (Below.mono (by assumption) (Below.size (by assumption)))))
      clear hK K
      refine wpAnyH_ready (rs := [16]) (by kernel_rfl) (by simp) ?_
      refine AllReadyH.cons rfl (fun K hK => ?_) AllReadyH.nil
      go_simp
      go_wp2_with (first | (go_at_call_of 25 (Value.slice (some ⟨b, o, none⟩) n cap); refine (HU1.out _ (HLn.out.below (by go_split_ands; assumption))).mono ?_; rintro e w8 ⟨rfl, hB⟩))
      try dsimp only
      refine hK.out _ _ ?_ (fun hHeld => ?_)
      · ((try dsimp only); first | assumption | (go_split_ands; refine bkeepS ?_; first | exact (Below.refl _ _).drew | assumption | exact Below.trans (by assumption) (Below.mono (by assumption) (Below.size (by assumption)))))
      clear hK K
      refine wpAnyH_take (i := 17) (v := ?_) (by simp only [List.getElem?_toArray, List.getElem?_cons_succ, List.getElem?_cons_zero]; rfl) (by kernel_rfl) (by kernel_rfl) (by kernel_rfl) (by exact fun _ _ _ h => h) (Or.inl ⟨by rfl, ?_⟩) (by assumption) ?_
      rotate_left
      · (intro w hSw; (try dsimp only at hSw); go_simp; try with_reducible rfl)
      try simp only [Act.put, List.setIfInBounds_toArray, List.set_cons_zero, List.set_cons_succ]
      refine wpAnyH_take (i := 18) (v := ?_) (by simp only [List.getElem?_toArray, List.getElem?_cons_succ, List.getElem?_cons_zero]; rfl) (by kernel_rfl) (by kernel_rfl) (by kernel_rfl) (by exact fun _ _ _ h => h) (Or.inl ⟨by rfl, ?_⟩) (by assumption) ?_
      rotate_left
      · (intro w hSw; (try dsimp only at hSw); go_simp; try with_reducible rfl)
      try simp only [Act.put, List.setIfInBounds_toArray, List.set_cons_zero, List.set_cons_succ]
      refine wpAnyH_take (i := 19) (v := ?_) (by simp only [List.getElem?_toArray, List.getElem?_cons_succ, List.getElem?_cons_zero]; rfl) (by kernel_rfl) (by kernel_rfl) (by kernel_rfl) (by exact fun _ _ _ h => h) (Or.inl ⟨by rfl, ?_⟩) (by assumption) ?_
      rotate_left
      · (intro w hSw; (try dsimp only at hSw); go_simp; try with_reducible rfl)
      try simp only [Act.put, List.setIfInBounds_toArray, List.set_cons_zero, List.set_cons_succ]
      refine wpAnyH_done (by kernel_rfl) ?_ _
      have hb6 : Below w5.heap.size w5 _ := hHeld.2
      have HF := hid (And.intro (HR5.out.1.below hb6) (stp (hid HR5.out.2.1) hb6).out)
      clear hHeld hb6 HR5 HZ1 HUo HU1 HLo HLn HL
      go_wp2
      go_roundw
      case rel => exact ⟨k + 1, by omega, by go_num, HF.out⟩
      case measure => simp [intOf]; omega
    · obtain rfl : k = n := by omega
      go_wp2
      go_ret
      exact ⟨rfl, HR.out.2⟩
theorem ssize_law (hAw : Aw12) (hSa : SaOk) (A : Option Addr) (cap : Nat) (l : List TM.N) (ok : ∀ x ∈ l, TM.okN x) (w : World) (hl : LiesN w A l) :
    Calls Try.prog 8 #[.slice A l.length cap] w fun e w' => e = .returned (.bool true) ∧ Below w.heap.size w w' := by
  by_cases h : 40 < l.length
  · exact ssize_big hAw A l.length cap h w
  · cases hr : TM.rowB l with
    | false =>
      by_cases h0 : 0 < l.length
      · exact ssize_bad hAw A l.length cap l rfl (by omega) h0 ok hr w hl
      · have e : l = [] := List.eq_nil_of_length_eq_zero (by omega)
        subst e; exact absurd hr (by decide)
    | true => exact ssize_good hAw hSa A l.length cap l rfl (by omega) ok hr w hl
end Go.Proofs.Ytapbeffjnpgglaa.TB
