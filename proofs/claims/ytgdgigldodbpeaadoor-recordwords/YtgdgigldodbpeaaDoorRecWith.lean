/-
  A record's field by the reference; a field set; as walks over the Go text.
-/
import Derived.Test.YtgdgigldodbpeaaDoorRecCells
namespace Go.Proofs.YtgdgigldodbpeaaDoor.B
open Go.ChangeShapes Go.WideShapes Go.ChangeAt Go.RowKit
set_option linter.unusedVariables false

set_option maxRecDepth 1000000 in
theorem rfield_any (l : List Int) (ok : M.okR l) (f : Int) (w : World) :
    Calls Tryd.prog 13 #[.agg (enc l), .int .i64 f] w fun e w' => e = .returned (.int .u64 (M.field l f)) ∧ Below w.heap.size w w' := by
  have HB : Hid (∀ o, Below w.heap.size w (w.alloc o)) := fun o => (Below.refl _ w).alloc (Nat.le_refl _) o
  by_cases h : 0 ≤ f ∧ f ≤ 8
  · by_cases h2 : 2 ≤ f
    · obtain ⟨j, rfl⟩ : ∃ j : Nat, f = (j : Int) + 2 := ⟨(f - 2).toNat, by omega⟩
      have hp : M.place ((j : Int) + 2) = ((2 * j + 2 : Nat) : Int) := by rw [M.place_ge h2 h.2]; omega
      have HP : Hid (M.field l ((j : Int) + 2) = M.at_ l (2 * j + 2) + 4294967296 * M.at_ l (2 * j + 2 + 1)) := by
        rw [M.field_ge l h2 h.2, show (2 * ((j : Int) + 2) - 2).toNat = 2 * j + 2 by omega, show (2 * ((j : Int) + 2) - 1).toNat = 2 * j + 3 by omega]; trivial
      have hg := enc_get ok.1 (2 * j + 2) (by omega)
      have hg2 := enc_get ok.1 (2 * j + 2 + 1) (by omega)
      obtain ⟨k, hk⟩ : ∃ k, k = 2 * j + 2 := ⟨_, rfl⟩
      rw [← hk] at hp hg hg2
      have hlt : (k : Int) < 16 := by omega
      have hlt2 : (k : Int) + 1 < 16 := by omega
      have hlt3 : 0 ≤ (k : Int) + 1 := by omega
      have hlt4 : ((k : Int) + 1).toNat = k + 1 := by omega
      have hwr : IntKind.i64.wrap ((k : Int) + 1) = (k : Int) + 1 := by rw [IntKind.wrap_i64]; omega
      have d0 : decide ((k : Int) < 0) = false := decide_eq_false (by omega)
      have d2 : decide ((k : Int) < 2) = false := decide_eq_false (by omega)
      have HK : Hid (k = 2 * j + 2) := hk
      have b1 := M.at_bd ok k
      have b2 := M.at_bd ok (k + 1)
      obtain ⟨x, hx⟩ : ∃ x, M.at_ l k = x := ⟨_, rfl⟩
      obtain ⟨y, hy⟩ : ∃ y, M.at_ l (k + 1) = y := ⟨_, rfl⟩
      have HX : Hid (M.at_ l k = x ∧ M.at_ l (k + 1) = y) := ⟨hx, hy⟩
      rw [hx] at hg b1
      rw [hy] at hg2 b2
      have w1 : IntKind.u64.wrap (4294967296 * y) = 4294967296 * y := by rw [IntKind.wrap_u64]; omega
      have w2 : IntKind.u64.wrap (x + 4294967296 * y) = x + 4294967296 * y := by rw [IntKind.wrap_u64]; omega
      have w3 : IntKind.u64.wrap x = x := by rw [IntKind.wrap_u64]; omega
      have w4 : IntKind.u64.wrap y = y := by rw [IntKind.wrap_u64]; omega
      obtain ⟨c, hc⟩ : ∃ c, enc l = c := ⟨_, rfl⟩
      rw [hc] at hg hg2 ⊢
      clear hc h hk h2 hx hy b1 b2
      go_enter Tryd.func13, Tryd.ntmps13
      go_wp2_with fail
      refine (rplace_any _ _).mono ?_
      rintro e w1 ⟨rfl, rfl⟩
      go_wp2_with fail
      refine wp_region_still_tail 11 (by kernel_rfl) (by kernel_rfl) ?_
      change wpStill _ _ (World.drew (w.alloc _)) (fun a' => wpList _ _ _ _ a' (World.drew (w.alloc _))) _ _
      simp only [List.take_succ_cons, List.take_zero, List.drop_succ_cons, List.drop_zero]
      repeat still_step
      refine wpStill_nil ?_
      go_wp2
      go_ret
      exact ⟨by rw [HP.out, ← HK.out, HX.out.1, HX.out.2]; rfl, (HB.out _).drew⟩
    · obtain ⟨j, rfl⟩ : ∃ j : Nat, f = (j : Int) := ⟨f.toNat, by omega⟩
      have hp : M.place (j : Int) = (j : Int) := M.place_lt (by omega) (by omega)
      have HP : Hid (M.field l (j : Int) = M.at_ l j) := by
        rw [M.field_lt l (by omega) (by omega)]; trivial
      have hg := enc_get ok.1 j (by omega)
      have hlt : (j : Int) < 16 := by omega
      have d0 : decide ((j : Int) < 0) = false := decide_eq_false (by omega)
      have d2 : decide ((j : Int) < 2) = true := decide_eq_true (by omega)
      obtain ⟨c, hc⟩ : ∃ c, enc l = c := ⟨_, rfl⟩
      rw [hc] at hg ⊢
      have b := M.at_bd ok j
      clear hc h h2
      go_enter Tryd.func13, Tryd.ntmps13
      go_wp2_with fail
      refine (rplace_any _ _).mono ?_
      rintro e w1 ⟨rfl, rfl⟩
      go_wp2
      go_ret
      exact ⟨by rw [HP.out]; rfl, HB.out _⟩
  · have HP : Hid (M.field l f = 0) := by unfold M.field; rw [if_pos (by omega)]; trivial
    have hp : M.place f = -1 := by unfold M.place; rw [if_pos (by omega)]
    go_enter Tryd.func13, Tryd.ntmps13
    go_wp2_with fail
    refine (rplace_any _ _).mono ?_
    rintro e w1 ⟨rfl, rfl⟩
    go_wp2
    go_ret
    exact ⟨by rw [HP.out]; rfl, HB.out _⟩

set_option maxRecDepth 1000000 in
theorem with_no (l : List Int) (ok : M.okR l) (f v : Int) (hv : 0 ≤ v ∧ v < 18446744073709551616) (h : M.fits f v = false) (w : World) :
    Calls Tryd.prog 11 #[.agg (enc l), .int .i64 f, .int .u64 v] w fun e w' => e = .returned (.tuple #[.agg (enc M.zero), .bool false]) ∧ Below w.heap.size w w' := by
  have h' : ¬ ((0 ≤ f ∧ f ≤ 8) ∧ (2 ≤ f ∨ v < 4294967296)) := fun c => by rw [M.fits_iff.2 c] at h; cases h
  have hB0 : Below w.heap.size w ((w.alloc (.cells (enc l) 24)).alloc (.cells (enc M.zero) 24)) := ((Below.refl _ w).alloc (Nat.le_refl _) _).alloc (by simp) _
  have hR : Rec ((w.alloc (.cells (enc l) 24)).alloc (.cells (enc M.zero) 24)) (w.heap.size + 1) M.zero := by
    have := Rec.new (w.alloc (.cells (enc l) 24)) M.zero rfl
    simpa using this
  obtain ⟨W, hW⟩ : ∃ W, (w.alloc (.cells (enc l) 24)).alloc (.cells (enc M.zero) 24) = W := ⟨_, rfl⟩
  rw [hW] at hB0 hR
  obtain ⟨W2, hst, hR2, _, hsz, hB⟩ := hR.store (m := M.zero) rfl
  have HB : Hid (Below w.heap.size w W2) := hB _ _ (by omega) hB0
  have HL : Hid (Rec W2 (w.heap.size + 1) M.zero) := hR2
  have hz := zero_lit
  have hzs := zero_size
  clear hB0 hR hR2 hsz hB
  by_cases hf : 0 ≤ f ∧ f ≤ 8
  · have hF : M.isF f = true := decide_eq_true hf
    have d2 : decide (2 ≤ f) = false := decide_eq_false (by omega)
    have hn : (v / 4294967296 != 0) = true := by rw [bne_iff_ne]; omega
    have HV : Hid (0 ≤ v ∧ v < 18446744073709551616) := hv
    clear hf h' hv h
    go_enter Tryd.func11, Tryd.ntmps11
    go_wp2_with fail
    refine (isField_any _ _).mono ?_
    rintro e w1 ⟨rfl, rfl⟩
    go_wp2_with fail
    refine (isPair_any _ _).mono ?_
    rintro e w1 ⟨rfl, rfl⟩
    go_wp2_with fail
    refine (hi_any _ HV.out _).mono ?_
    rintro e w1 ⟨rfl, rfl⟩
    go_wp2
    refine bodyPost_ret (v := .tuple #[.agg (enc M.zero), .bool false]) ?_ rfl ⟨rfl, HB.out⟩
    exact results_rec Tryd.results11 _ rfl HL.out
  · have hF : M.isF f = false := decide_eq_false hf
    clear hf h' hv h
    go_enter Tryd.func11, Tryd.ntmps11
    go_wp2_with fail
    refine (isField_any _ _).mono ?_
    rintro e w1 ⟨rfl, rfl⟩
    go_wp2
    refine bodyPost_ret (v := .tuple #[.agg (enc M.zero), .bool false]) ?_ rfl ⟨rfl, HB.out⟩
    exact results_rec Tryd.results11 _ rfl HL.out
set_option maxRecDepth 1000000 in
theorem with_one (l : List Int) (ok : M.okR l) (f v : Int) (hv : 0 ≤ v ∧ v < 18446744073709551616) (h : M.fits f v = true) (h2 : f < 2) (w : World) :
    Calls Tryd.prog 11 #[.agg (enc l), .int .i64 f, .int .u64 v] w fun e w' => e = .returned (.tuple #[.agg (enc (M.with_ l f v)), .bool true]) ∧ Below w.heap.size w w' := by
  have h' := M.fits_iff.1 h
  obtain ⟨j, rfl⟩ : ∃ j : Nat, f = (j : Int) := ⟨f.toNat, by omega⟩
  have hp : M.place (j : Int) = (j : Int) := M.place_lt (by omega) (by omega)
  have hw : M.with_ l (j : Int) v = l.set j v := by unfold M.with_; rw [if_pos h, if_pos (by omega)]; rfl
  rw [hw]
  have hF : M.isF (j : Int) = true := decide_eq_true (by omega)
  have d2 : decide (2 ≤ (j : Int)) = false := decide_eq_false (by omega)
  have hn : (v / 4294967296 != 0) = false := by rw [bne_eq_false_iff_eq]; omega
  have hm : v % 4294967296 = v := by omega
  have hlt : (j : Int) < 16 := by omega
  have HV : Hid (0 ≤ v ∧ v < 18446744073709551616) := hv
  have hB0 : Below w.heap.size w ((w.alloc (.cells (enc l) 24)).alloc (.cells (enc M.zero) 24)) := ((Below.refl _ w).alloc (Nat.le_refl _) _).alloc (by simp) _
  have hR : Rec ((w.alloc (.cells (enc l) 24)).alloc (.cells (enc M.zero) 24)) (w.heap.size + 1) M.zero := by
    have := Rec.new (w.alloc (.cells (enc l) 24)) M.zero rfl
    simpa using this
  have hQ : Rec ((w.alloc (.cells (enc l) 24)).alloc (.cells (enc M.zero) 24)) w.heap.size l := (Rec.new w l ok.1).alloc _
  obtain ⟨W, hW⟩ : ∃ W, (w.alloc (.cells (enc l) 24)).alloc (.cells (enc M.zero) 24) = W := ⟨_, rfl⟩
  rw [hW] at hB0 hR hQ
  have hc := hQ.cell j (by omega)
  have hfr := hQ.frozen j
  obtain ⟨W1, hs1, hQ1, hO1, hz1, hB1⟩ := hQ.set j v
  have hR1 := hO1 _ _ (by omega) hR
  have hB1 := hB1 _ _ (Nat.le_refl _) hB0
  have hl1 := hQ1.load
  have hX := lcf_eq
  obtain ⟨W2, hst, hR2, _, hsz, hB⟩ := hR1.store (m := l.set j v) hQ1.2
  have HB : Hid (Below w.heap.size w W2) := hB _ _ (by omega) hB1
  have HL : Hid (Rec W2 (w.heap.size + 1) (l.set j v)) := hR2
  have hz := zero_lit
  have hsz2 : (enc (l.set j v)).size = 16 := enc_size hQ1.2
  clear hB0 hR hR2 hsz hB h2 hw hQ hQ1 hO1 hz1 hB1 hR1 h' hv h
  go_enter Tryd.func11, Tryd.ntmps11
  go_wp2_with fail
  refine (isField_any _ _).mono ?_
  rintro e w1 ⟨rfl, rfl⟩
  go_wp2_with fail
  refine (isPair_any _ _).mono ?_
  rintro e w1 ⟨rfl, rfl⟩
  go_wp2_with fail
  refine (hi_any _ HV.out _).mono ?_
  rintro e w1 ⟨rfl, rfl⟩
  go_wp2_with fail
  refine (place_any _ _).mono ?_
  rintro e w1 ⟨rfl, rfl⟩
  go_wp2_with fail
  refine (lo_any _ HV.out _).mono ?_
  rintro e w1 ⟨rfl, rfl⟩
  go_wp2_with fail
  refine (isPair_any _ _).mono ?_
  rintro e w1 ⟨rfl, rfl⟩
  go_wp2
  refine bodyPost_ret (v := .tuple #[.agg (enc (l.set j v)), .bool true]) ?_ rfl ⟨rfl, HB.out⟩
  exact results_rec Tryd.results11 _ rfl HL.out

set_option maxRecDepth 1000000 in
theorem with_two (l : List Int) (ok : M.okR l) (f v : Int) (hv : 0 ≤ v ∧ v < 18446744073709551616) (h : M.fits f v = true) (h2 : 2 ≤ f) (w : World) :
    Calls Tryd.prog 11 #[.agg (enc l), .int .i64 f, .int .u64 v] w fun e w' => e = .returned (.tuple #[.agg (enc (M.with_ l f v)), .bool true]) ∧ Below w.heap.size w w' := by
  have h' := M.fits_iff.1 h
  obtain ⟨k, hk⟩ : ∃ k : Nat, (k : Int) = 2 * f - 2 := ⟨(2 * f - 2).toNat, by omega⟩
  have hp : M.place f = (k : Int) := by rw [M.place_ge (by omega) (by omega), hk]
  obtain ⟨m, hm⟩ : ∃ m, m = (l.set k (v % 4294967296)).set (k + 1) (v / 4294967296) := ⟨_, rfl⟩
  have hw : M.with_ l f v = m := by
    unfold M.with_; rw [if_pos h, if_neg (by omega), hm, show (2 * f - 2).toNat = k by omega, show (2 * f - 1).toNat = k + 1 by omega]
  rw [hw]
  have hF : M.isF f = true := decide_eq_true (by omega)
  have d2 : decide (2 ≤ f) = true := decide_eq_true (by omega)
  have hlt : (k : Int) < 16 := by omega
  have hlt2 : (k : Int) + 1 < 16 := by omega
  have hlt3 : 0 ≤ (k : Int) + 1 := by omega
  have hlt4 : ((k : Int) + 1).toNat = k + 1 := by omega
  have hwr : IntKind.i64.wrap ((k : Int) + 1) = (k : Int) + 1 := by rw [IntKind.wrap_i64]; omega
  have HV : Hid (0 ≤ v ∧ v < 18446744073709551616) := hv
  have hB0 : Below w.heap.size w ((w.alloc (.cells (enc l) 24)).alloc (.cells (enc M.zero) 24)) := ((Below.refl _ w).alloc (Nat.le_refl _) _).alloc (by simp) _
  have hR : Rec ((w.alloc (.cells (enc l) 24)).alloc (.cells (enc M.zero) 24)) (w.heap.size + 1) M.zero := by
    have := Rec.new (w.alloc (.cells (enc l) 24)) M.zero rfl
    simpa using this
  have hQ : Rec ((w.alloc (.cells (enc l) 24)).alloc (.cells (enc M.zero) 24)) w.heap.size l := (Rec.new w l ok.1).alloc _
  obtain ⟨W, hW⟩ : ∃ W, (w.alloc (.cells (enc l) 24)).alloc (.cells (enc M.zero) 24) = W := ⟨_, rfl⟩
  rw [hW] at hB0 hR hQ
  have hc := hQ.cell k (by omega)
  have hfr := hQ.frozen k
  obtain ⟨W1, hs1, hQ1, hO1, hz1, hB1⟩ := hQ.set k (v % 4294967296)
  have hR1 := hO1 _ _ (by omega) hR
  have hB1 := hB1 _ _ (Nat.le_refl _) hB0
  have hc1 := hQ1.cell (k + 1) (by omega)
  have hfr1 := hQ1.frozen (k + 1)
  obtain ⟨W2, hs2, hQ2, hO2, hz2, hB2⟩ := hQ1.set (k + 1) (v / 4294967296)
  have hR2 := hO2 _ _ (by omega) hR1
  have hB2 := hB2 _ _ (Nat.le_refl _) hB1
  rw [← hm] at hQ2
  have hl1 := hQ2.load
  have hX := lcf_eq
  obtain ⟨W3, hst, hR3, _, hsz, hB⟩ := hR2.store (m := m) hQ2.2
  have HB : Hid (Below w.heap.size w W3) := hB _ _ (by omega) hB2
  have HL : Hid (Rec W3 (w.heap.size + 1) m) := hR3
  have hz := zero_lit
  have hsz2 : (enc m).size = 16 := enc_size hQ2.2
  clear hB0 hR hR2 hsz hB h2 hw hQ hQ1 hO1 hz1 hB1 hR1 h' hv h hk hm hQ2 hO2 hz2 hB2 hR3
  go_enter Tryd.func11, Tryd.ntmps11
  go_wp2_with fail
  refine (isField_any _ _).mono ?_
  rintro e w1 ⟨rfl, rfl⟩
  go_wp2_with fail
  refine (isPair_any _ _).mono ?_
  rintro e w1 ⟨rfl, rfl⟩
  go_wp2_with fail
  refine (place_any _ _).mono ?_
  rintro e w1 ⟨rfl, rfl⟩
  go_wp2_with fail
  refine (lo_any _ HV.out _).mono ?_
  rintro e w1 ⟨rfl, rfl⟩
  go_wp2_with fail
  refine (isPair_any _ _).mono ?_
  rintro e w1 ⟨rfl, rfl⟩
  go_wp2_with fail
  refine (hi_any _ HV.out _).mono ?_
  rintro e w1 ⟨rfl, rfl⟩
  go_wp2
  refine bodyPost_ret (v := .tuple #[.agg (enc m), .bool true]) ?_ rfl ⟨rfl, HB.out⟩
  exact results_rec Tryd.results11 _ rfl HL.out

theorem with_any (l : List Int) (ok : M.okR l) (f v : Int) (hv : 0 ≤ v ∧ v < 18446744073709551616) (w : World) :
    Calls Tryd.prog 11 #[.agg (enc l), .int .i64 f, .int .u64 v] w fun e w' => e = .returned (.tuple #[.agg (enc (M.with_ l f v)), .bool (M.fits f v)]) ∧ Below w.heap.size w w' := by
  rcases h : M.fits f v with _ | _
  · have : M.with_ l f v = M.zero := by unfold M.with_; rw [h]; rfl
    rw [this]
    exact with_no l ok f v hv h w
  · by_cases h2 : f < 2
    · exact with_one l ok f v hv h h2 w
    · exact with_two l ok f v hv h (by omega) w
end Go.Proofs.YtgdgigldodbpeaaDoor.B
