/-
  The program's Values, Value, Uses, Size of layer 11, as walks over the Go text.
-/
import Derived.Test.YtmjeoknndnbglaaTerCodE
namespace Go.Proofs.Ytmjeoknndnbglaa.TB
open Go.ChangeShapes Go.WideShapes Go.ChangeAt Go.RowKit
open Go.Sort hiding Below
set_option linter.unusedVariables false
set_option maxRecDepth 100000

theorem cck : CkOk := fun A n cap L hln hn ok W hl p e hc => ccheck A n cap L hln hn ok W hl p e hc
theorem inB_nil (L : List TM.N) : inB L [] := fun x hx => by cases hx
set_option maxHeartbeats 1600000 in
theorem cvs : VsOk := by
  intro A n cap L r hln hL ok hk w hl
  have hX := RB.lcf_eq
  have hsz16 := RB.enc_size hk.1
  have HRc := hid (RB.Rec.new w r hk.1)
  have HB := hid (al w (.cells (RB.enc r) 25))
  have HA := hid (casked A n cap L hln ok hL none 0 0 [] rfl (by omega) 0 (.inl ⟨inB_nil L, rfl⟩) _ (hl.below HB.out) (.inl rfl))
  have HV := hid (fun W (h : LiesN W A L) => cvalues A n cap L hln hL (TM.val L r) ok r hk W h (fun j _ => rfl))
  have HL := hid hl
  clear hln hL ok hk hl
  go_enter Try.func12, Try.ntmps12
  go_wp2_with fail
  refine HA.out.mono ?_
  rintro e w1 ⟨rfl, hb⟩
  have hld := (HRc.out.below hb (by simp)).load
  have HB1 := hid (HB.out.trans (hb.mono HB.out.size))
  clear hb HA HRc HB
  go_wp2_with fail
  refine (HV.out _ (HL.out.below HB1.out)).mono ?_
  rintro e w2 ⟨g, rfl, hR, hb⟩
  have HZ := hid (And.intro hR.o (HB1.out.trans (hb.mono HB1.out.size)))
  clear hb hR HB1 HV hld
  go_wp2
  go_ret2
  exact ⟨some ⟨g, 0, none⟩, n, rfl, HZ.out⟩
set_option maxHeartbeats 1600000 in
theorem cvs_bad : VsBad := by
  intro A n cap L r hln hn hrb ok hk w hl
  have hsz16 := RB.enc_size hk.1
  have HB := hid (al w (.cells (RB.enc r) 25))
  have HA := hid (casked_bad A n cap L hln hn ok hrb (.slice none 0 0) _ (hl.below HB.out))
  clear hln hn hrb ok hk hl
  go_enter Try.func12, Try.ntmps12
  go_wp2_with fail
  refine HA.out.mono ?_
  rintro e w1 ⟨rfl, hb⟩
  have HB1 := hid (HB.out.trans (hb.mono HB.out.size))
  clear hb HA HB
  go_wp2
  go_ret2
  exact ⟨none, 0, rfl, HB1.out⟩
theorem lies_one (w : World) (i : Int) : LiesI (w.alloc (.cells #[.int .i64 i] 3)) (some ⟨w.heap.size, 0, none⟩) [i] := by
  refine .inr ⟨_, 0, rfl, by simp, fun j hj => ?_⟩
  have : j = 0 := by simpa using hj
  subst this
  exact cell_lit w [.int .i64 i] 3 0
/-- what is asked of a row and one place -/
theorem casked_at (A : Option Addr) (n cap : Nat) (L : List TM.N) (i : Int) (hln : L.length = n) (hn : n ≤ 9223372036854775807) (ok : ∀ x ∈ L, TM.okN x) (B : Option Addr) (c : Nat) (w : World) (hl : LiesN w A L) (hR : LiesI w B [i]) :
    Calls Try.prog 33 #[.slice A n cap, .slice B 1 c] w fun e w' => e = .returned (.int .i64 (atE L i)) ∧ Below w.heap.size w w' := by
  cases hrb : TM.rowB L with
  | false =>
    rw [show atE L i = 3 by unfold atE; rw [if_pos hrb]]
    exact casked_bad A n cap L hln hn ok hrb _ w hl
  | true =>
    refine casked A n cap L hln ok (TM.row_iff.1 hrb) B 1 c [i] rfl (by omega) _ ?_ w hl hR
    have hin : inB L [i] ↔ (0 ≤ i ∧ i < (L.length : Int)) := by
      unfold inB; simp
    by_cases h : 0 ≤ i ∧ i < (L.length : Int)
    · exact .inl ⟨hin.2 h, by unfold atE; rw [if_neg (by rw [hrb]; simp), if_neg (by omega)]⟩
    · exact .inr ⟨fun h2 => h (hin.1 h2), by unfold atE; rw [if_neg (by rw [hrb]; simp), if_pos (by omega)]⟩
theorem atE_0 {L : List TM.N} {i : Int} (h : atE L i = 0) : TM.Row L ∧ ∃ k : Nat, i = k ∧ k < L.length := by
  unfold atE at h
  split at h
  · omega
  · split at h
    · omega
    · rename_i h1 h2
      exact ⟨TM.row_iff.1 (by simpa using h1), i.toNat, by omega, by omega⟩
set_option maxHeartbeats 3200000 in
theorem cvl : VlOk := by
  intro A n cap L r i hln hn hcap ok hk hi w hl
  have hX := RB.lcf_eq
  have hsz16 := RB.enc_size hk.1
  have HRc := hid (RB.Rec.new w r hk.1)
  have HB := hid (al w (.cells (RB.enc r) 25))
  have HB' := hid (stp HB (al _ (.cells #[.int .i64 i] 3)))
  have HA := hid (casked_at A n cap L i hln hn ok (some ⟨(w.alloc (.cells (RB.enc r) 25)).heap.size, 0, none⟩) 1 _ (hl.below HB'.out.out) (lies_one (w.alloc (.cells (RB.enc r) 25)) i))
  obtain ⟨q, hq⟩ : ∃ q, atE L i = q := ⟨_, rfl⟩
  rw [hq] at HA ⊢
  have hsz : (w.alloc (.cells (RB.enc r) 25)).heap.size = w.heap.size + 1 := by simp
  rw [hsz] at HA
  by_cases h0 : q = 0
  · subst h0
    obtain ⟨hL, k, rfl, hkl⟩ := atE_0 hq
    rw [if_pos rfl, Int.toNat_natCast]
    have hkn : k < n := by omega
    have hn2 : n ≤ 65536 := by rw [← hln]; exact hL.1
    obtain ⟨b, o, rfl, hly⟩ := hl.ly (by omega)
    have HV := hid (fun W (h : LiesN W (some ⟨b, o, none⟩) L) => cvalues (some ⟨b, o, none⟩) (k + 1) cap (L.take (k + 1)) (by rw [List.length_take]; omega) (TM.row_take hL (by omega)) (TM.val L r) (fun x hx => ok x (List.mem_of_mem_take hx)) r hk W (h.take _) (fun j hj => TM.val_take r (by omega) (by omega)))
    have HL := hid hly
    have i1 : (k : Int) + 1 ≤ (cap : Int) := by omega
    have i2 : (k : Int) < (k : Int) + 1 := by omega
    have i3 : (0 : Int) ≤ (k : Int) + 1 := by omega
    clear hln hn hcap ok hk hi hl hq hL hkl
    go_enter Try.func13, Try.ntmps13
    go_wp2_with fail
    refine HA.out.mono ?_
    rintro e w1 ⟨rfl, hb⟩
    have HR1 := hid (((HRc.out.alloc _).below hb (by simp; omega)).drew)
    have HB1 := stp HB'.out hb
    have HB2 := hid (bdrew (n := 1) HB1.out)
    have hld := HR1.out.load
    clear hb HA HRc HB HB'
    have HLd := hid ((HL.out.below (bdrew (n := 1) (HB1.out))).lies)
    have hn5 : k < n := hkn
    have z4 : ((k : Int) + 1).toNat = k + 1 := by omega
    have z1 : IntKind.i64.wrap ((k : Int) + 1) = (k : Int) + 1 := Go.IntWalk.i64_in _ (by omega)
    clear HB1 HL
    go_wp2
    go_region_with (go_at_call 34; refine (HV.out _ HLd.out).mono ?_; rintro e w2 ⟨g, rfl, hR, hb⟩; have c5 := hR.cell k (by omega); have HB3 := stp HB2 hb; clear hb hR HR1 HB2 hld HLd HV)
    all_goals
      go_wp2
      go_ret2
      exact ⟨rfl, HB3.out⟩
  · rw [if_neg h0]
    have d1 : (q == 0) = false := beq_eq_false_iff_ne.2 h0
    have d2 : (q != 0) = true := bne_iff_ne.2 h0
    clear hln hn hcap ok hk hi hl hq
    go_enter Try.func13, Try.ntmps13
    go_wp2_with fail
    refine HA.out.mono ?_
    rintro e w1 ⟨rfl, hb⟩
    have HB1 := stp HB'.out hb
    clear hb HA HRc HB HB'
    go_wp2
    go_ret2
    exact ⟨rfl, HB1.out⟩

set_option maxHeartbeats 3200000 in
theorem cus : UsOk := by
  intro A n cap L i hln hn hcap ok hi w hl
  have HB := hid (al w (.cells #[.int .i64 i] 3))
  have HA := hid (casked_at A n cap L i hln hn ok (some ⟨w.heap.size, 0, none⟩) 1 _ (hl.below HB.out) (lies_one w i))
  obtain ⟨q, hq⟩ : ∃ q, atE L i = q := ⟨_, rfl⟩
  rw [hq] at HA ⊢
  by_cases h0 : q = 0
  · subst h0
    obtain ⟨hL, k, rfl, hkl⟩ := atE_0 hq
    rw [if_pos rfl, Int.toNat_natCast]
    have hkn : k < n := by omega
    have hn2 : n ≤ 65536 := by rw [← hln]; exact hL.1
    obtain ⟨b, o, rfl, hly⟩ := hl.ly (by omega)
    have HV := hid (fun W (h : LiesN W (some ⟨b, o, none⟩) L) => cup16 (some ⟨b, o, none⟩) (k + 1) cap (L.take (k + 1)) (by rw [List.length_take]; omega) (TM.row_take hL (by omega)) (fun j => ((TM.uses L j : Nat) : Int)) W (h.take _) (fun j hj W' _ => by
      have := ctell16 L hL ok j (by rw [List.length_take] at hj; omega) W'
      simpa only [List.getElem_take] using this))
    have HL := hid hly
    have i1 : (k : Int) + 1 ≤ (cap : Int) := by omega
    have i2 : (k : Int) < (k : Int) + 1 := by omega
    have i3 : (0 : Int) ≤ (k : Int) + 1 := by omega
    have z4 : ((k : Int) + 1).toNat = k + 1 := by omega
    have z1 : IntKind.i64.wrap ((k : Int) + 1) = (k : Int) + 1 := Go.IntWalk.i64_in _ (by omega)
    clear hln hn hcap ok hi hl hq hL hkl
    go_enter Try.func16, Try.ntmps16
    go_wp2_with fail
    refine HA.out.mono ?_
    rintro e w1 ⟨rfl, hb⟩
    have HB1 := stp HB hb
    have HLd := hid ((HL.out.below HB1.out).lies)
    clear hb HA HB HL
    go_wp2_with (go_at_call 36; refine (HV.out _ HLd.out).mono ?_; rintro e w2 ⟨g, rfl, hR, hb⟩; have c5 := hR.cell k (by omega); have HB3 := stp HB1 hb; clear hb hR HB1 HLd HV)
    go_ret2
    exact ⟨rfl, HB3.out⟩
  · rw [if_neg h0]
    have d1 : (q == 0) = false := beq_eq_false_iff_ne.2 h0
    have d2 : (q != 0) = true := bne_iff_ne.2 h0
    clear hln hn hcap ok hi hl hq
    go_enter Try.func16, Try.ntmps16
    go_wp2_with fail
    refine HA.out.mono ?_
    rintro e w1 ⟨rfl, hb⟩
    have HB1 := stp HB hb
    clear hb HA HB
    go_wp2
    go_ret2
    exact ⟨rfl, HB1.out⟩

set_option maxHeartbeats 3200000 in
theorem csz : SzOk := by
  intro A n cap L i hln hn hcap ok hi w hl
  have HB := hid (al w (.cells #[.int .i64 i] 3))
  have HA := hid (casked_at A n cap L i hln hn ok (some ⟨w.heap.size, 0, none⟩) 1 _ (hl.below HB.out) (lies_one w i))
  obtain ⟨q, hq⟩ : ∃ q, atE L i = q := ⟨_, rfl⟩
  rw [hq] at HA ⊢
  by_cases h0 : q = 0
  · subst h0
    obtain ⟨hL, k, rfl, hkl⟩ := atE_0 hq
    rw [if_pos rfl, Int.toNat_natCast]
    have hkn : k < n := by omega
    have hn2 : n ≤ 65536 := by rw [← hln]; exact hL.1
    obtain ⟨b, o, rfl, hly⟩ := hl.ly (by omega)
    have HV := hid (fun W (h : LiesN W (some ⟨b, o, none⟩) L) => cup64 (some ⟨b, o, none⟩) (k + 1) cap (L.take (k + 1)) (by rw [List.length_take]; omega) (TM.row_take hL (by omega)) (fun j => ((TM.sz L j : Nat) : Int)) W (h.take _) (fun j hj W' _ => by
      have := ctell64 L hL j (by rw [List.length_take] at hj; omega) W'
      simpa only [List.getElem_take] using this))
    have HL := hid hly
    have i1 : (k : Int) + 1 ≤ (cap : Int) := by omega
    have i2 : (k : Int) < (k : Int) + 1 := by omega
    have i3 : (0 : Int) ≤ (k : Int) + 1 := by omega
    have z4 : ((k : Int) + 1).toNat = k + 1 := by omega
    have z1 : IntKind.i64.wrap ((k : Int) + 1) = (k : Int) + 1 := Go.IntWalk.i64_in _ (by omega)
    clear hln hn hcap ok hi hl hq hL hkl
    go_enter Try.func19, Try.ntmps19
    go_wp2_with fail
    refine HA.out.mono ?_
    rintro e w1 ⟨rfl, hb⟩
    have HB1 := stp HB hb
    have HLd := hid ((HL.out.below HB1.out).lies)
    clear hb HA HB HL
    go_wp2_with (go_at_call 39; refine (HV.out _ HLd.out).mono ?_; rintro e w2 ⟨g, rfl, hR, hb⟩; have c5 := hR.cell k (by omega); have HB3 := stp HB1 hb; clear hb hR HB1 HLd HV)
    go_ret2
    exact ⟨rfl, HB3.out⟩
  · rw [if_neg h0]
    have d1 : (q == 0) = false := beq_eq_false_iff_ne.2 h0
    have d2 : (q != 0) = true := bne_iff_ne.2 h0
    clear hln hn hcap ok hi hl hq
    go_enter Try.func19, Try.ntmps19
    go_wp2_with fail
    refine HA.out.mono ?_
    rintro e w1 ⟨rfl, hb⟩
    have HB1 := stp HB hb
    clear hb HA HB
    go_wp2
    go_ret2
    exact ⟨rfl, HB1.out⟩
end Go.Proofs.Ytmjeoknndnbglaa.TB
