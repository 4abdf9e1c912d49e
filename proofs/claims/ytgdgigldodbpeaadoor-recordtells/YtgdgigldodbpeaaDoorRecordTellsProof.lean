/-
  For every record, field, number and place, words and fields are the document's; a field that is set is told, and the others stay; no condition.
-/
import Derived.Test.YtgdgigldodbpeaaDoorRows
import Derived.WalkKit
import Derived.ProofKit
import Derived.OpenShut
import Derived.Carry
import Derived.Test.YtgdgigldodbpeaaDoorTie
import Derived.Test.YtgdgigldodbpeaaDoorCards
import Derived.SevenTiedAt
import Derived.Test.YtgdgigldodbpeaaDoorRecAwake
import Derived.Test.YtgdgigldodbpeaaDoorRecLaid
import Derived.Test.YtgdgigldodbpeaaDoorRecArgs
namespace Go.Proofs.YtgdgigldodbpeaaDoor.recordTells
open Go.ChangeShapes Go.WideShapes Go.ChangeAt Go.RowKit
set_option linter.unusedVariables false

theorem own : ownKnob Tryd.prog.godebug = none := by kernel_rfl
theorem laidOut : laidOutB Tryd.prog = true := by kernel_rfl
/-- the three ways of a place -/
def At (l : List Int) (n : Int) : Prop :=
  (decide (n < 64) = false ∧ M.load l n = 0 ∧ M.isL n = false) ∨ (decide (n < 64) = true ∧ (n % 4 == 0) = false ∧ M.load l n = 0 ∧ M.isL n = false) ∨
  ∃ j : Nat, n = 4 * (j : Int) ∧ j < 16 ∧ (j : Int) < 16 ∧ 4 * (j : Int) / 4 = j ∧ decide (4 * (j : Int) < 64) = true ∧ (4 * (j : Int) % 4 == 0) = true ∧ M.load l (4 * (j : Int)) = M.at_ l j ∧ M.isL (4 * (j : Int)) = true
theorem at_all (l : List Int) (n : Int) (h : 0 ≤ n) : At l n := by
  by_cases h6 : n < 64
  · by_cases h4 : n % 4 = 0
    · obtain ⟨j, rfl⟩ : ∃ j : Nat, n = 4 * (j : Int) := ⟨(n / 4).toNat, by omega⟩
      have hL : M.isL (4 * (j : Int)) = true := decide_eq_true (by omega)
      exact .inr (.inr ⟨j, rfl, by omega, by omega, by omega, decide_eq_true h6, beq_iff_eq.2 h4, by unfold M.load; rw [hL, show (4 * (j : Int) / 4).toNat = j by omega]; rfl, hL⟩)
    · have hL : M.isL n = false := decide_eq_false (by omega)
      exact .inr (.inl ⟨decide_eq_true h6, beq_eq_false_iff_ne.2 h4, by unfold M.load; rw [hL]; rfl, hL⟩)
  · have hL : M.isL n = false := decide_eq_false (by omega)
    exact .inl ⟨decide_eq_false h6, by unfold M.load; rw [hL]; rfl, hL⟩

set_option maxHeartbeats 6400000 in
set_option maxRecDepth 1000000 in
theorem no_ (l : List Int) (ok : M.okR l) (f v n : Int) (hn : 0 ≤ n ∧ n < 4294967296) (hv : 0 ≤ v ∧ v < 18446744073709551616) (hA : At l n) (w : World) (hN : B.Nm w)
    (hF : (decide (0 ≤ f) = false ∧ M.isF f = false) ∨ (decide (0 ≤ f) = true ∧ decide (f < 9) = false ∧ M.isF f = false) ∨ (decide (0 ≤ f) = true ∧ decide (f < 9) = true ∧ M.isF f = true ∧ decide (1 < f) = false ∧ decide (v < 4294967296) = false))
    (h1 : M.fits f v = false) (h2 : M.with_ l f v = M.zero) :
    Calls Tryd.prog 3 #[.agg (B.enc l), .int .i64 f, .int .u64 v, .int .u32 n] w fun e w' => e = .returned (.bool true) ∧ Below w.heap.size w w' := by
  have hX := B.lcf_eq
  have hz := B.zero_lit
  have hzs := B.zero_size
  have hg := B.guard24
  have he0 : ∀ W, (binOp .eql 24 (.agg (B.enc M.zero)) (.agg (B.enc M.zero))).run Tryd.prog W = .ok (.bool true) W := fun W => by rw [B.eql24 M.zero M.zero rfl rfl W]; simp
  have hld := (B.Rec.new w l ok.1).load
  have HK : Hid (B.Nm (w.alloc (.cells (B.enc l) 24)) ∧ B.Rec (w.alloc (.cells (B.enc l) 24)) w.heap.size l ∧ Below w.heap.size w (w.alloc (.cells (B.enc l) 24))) := B.start3 hN ok
  have HN : Hid (0 ≤ n ∧ n < 4294967296) := hn
  have HV : Hid (0 ≤ v ∧ v < 18446744073709551616) := hv
  clear hN hv
  rcases hF with ⟨f1, f2⟩ | ⟨f1, f2, f3⟩ | ⟨f1, f2, f3, f4, f5⟩
  all_goals
    rcases hA with ⟨a1, a2, a3⟩ | ⟨a1, a2, a3, a4⟩ | ⟨j, rfl, a1, a2, a3, a4, a5, a6, a7⟩
    all_goals
      go_enter Tryd.func3, Tryd.ntmps3
      go_wp2_with fail
      refine (B.load_any l ok _ HN.out _).mono ?_
      rintro e w1 ⟨rfl, hB⟩
      have HK : Hid (B.Nm w1 ∧ B.Rec w1 w.heap.size l ∧ Below w.heap.size w w1) := B.step3 HK hB
      have hcl := HK.out.2.1.cell
      have hld := HK.out.2.1.load
      clear hB
      go_wp2_with fail
      refine (B.field_any l ok _ _).mono ?_
      rintro e w2 ⟨rfl, hB⟩
      have HK : Hid (B.Nm w2 ∧ B.Rec w2 w.heap.size l ∧ Below w.heap.size w w2) := B.step3 HK hB
      have hld := HK.out.2.1.load
      clear hB hcl
      go_wp2_with fail
      refine (B.with_any l ok _ _ HV.out _).mono ?_
      rintro e w3 ⟨rfl, hB⟩
      have HK : Hid (B.Nm w3 ∧ B.Rec w3 w.heap.size l ∧ Below w.heap.size w w3) := B.step3 HK hB
      obtain ⟨w4, hst4, hQ, _, _, hb4⟩ := B.new_rec w3 M.zero rfl
      have HK : Hid (B.Nm w4 ∧ B.Rec w4 w.heap.size l ∧ Below w.heap.size w w4) := B.step3 HK hb4
      have HQ : Hid (B.Rec w4 w3.heap.size M.zero) := hQ
      clear hB hQ hb4
      go_wp2_with fail
      refine (B.awake_any _ HK.out.1).mono ?_
      rintro e w5 ⟨rfl, hB⟩
      have HK : Hid (B.Nm w5 ∧ B.Rec w5 w.heap.size l ∧ Below w.heap.size w w5) := B.step3 HK hB
      have HQ : Hid (B.Rec w5 w3.heap.size M.zero) := HQ.out.below hB HQ.out.lt
      have hld := HK.out.2.1.load
      clear hB hst4
      go_wp2_with fail
      refine (B.rfield_any l ok _ _).mono ?_
      rintro e w6 ⟨rfl, hB⟩
      have HK : Hid (B.Nm w6 ∧ B.Rec w6 w.heap.size l ∧ Below w.heap.size w w6) := B.step3 HK hB
      have HQ : Hid (B.Rec w6 w3.heap.size M.zero) := HQ.out.below hB HQ.out.lt
      have hlq := HQ.out.load
      clear hB
      go_wp2
      go_ret
      exact ⟨rfl, HK.out.2.2⟩

set_option maxHeartbeats 6400000 in
set_option maxRecDepth 1000000 in
theorem yes_ (l : List Int) (ok : M.okR l) (f v n : Int) (hn : 0 ≤ n ∧ n < 4294967296) (hv : 0 ≤ v ∧ v < 18446744073709551616) (hA : At l n) (w : World) (hN : B.Nm w)
    (f1 : decide (0 ≤ f) = true) (f2 : decide (f < 9) = true) (f3 : M.isF f = true) (hF : decide (1 < f) = true ∨ (decide (1 < f) = false ∧ decide (v < 4294967296) = true))
    (h1 : M.fits f v = true) :
    Calls Tryd.prog 3 #[.agg (B.enc l), .int .i64 f, .int .u64 v, .int .u32 n] w fun e w' => e = .returned (.bool true) ∧ Below w.heap.size w w' := by
  have HW : Hid (∀ k : Int, 0 ≤ k → k < 9 → M.field (M.with_ l f v) k = if k = f then v else M.field l k) := fun k h0 h9 => M.field_with ok f v k hv.1 h1 ⟨h0, by omega⟩
  have okq := M.ok_with ok f v hv
  obtain ⟨q, hq⟩ : ∃ q, M.with_ l f v = q := ⟨_, rfl⟩
  rw [hq] at okq HW
  have hX := B.lcf_eq
  have hz := B.zero_lit
  have hsq : (B.enc q).size = 16 := B.enc_size okq.1
  have hld := (B.Rec.new w l ok.1).load
  have HK : Hid (B.Nm (w.alloc (.cells (B.enc l) 24)) ∧ B.Rec (w.alloc (.cells (B.enc l) 24)) w.heap.size l ∧ Below w.heap.size w (w.alloc (.cells (B.enc l) 24))) := B.start3 hN ok
  have HN : Hid (0 ≤ n ∧ n < 4294967296) := hn
  have HV : Hid (0 ≤ v ∧ v < 18446744073709551616) := hv
  clear hN hv
  rcases hF with f4 | ⟨f4, f5⟩
  all_goals
    rcases hA with ⟨a1, a2, a3⟩ | ⟨a1, a2, a3, a4⟩ | ⟨j, rfl, a1, a2, a3, a4, a5, a6, a7⟩
    all_goals
      go_enter Tryd.func3, Tryd.ntmps3
      go_wp2_with fail
      refine (B.load_any l ok _ HN.out _).mono ?_
      rintro e w1 ⟨rfl, hB⟩
      have HK : Hid (B.Nm w1 ∧ B.Rec w1 w.heap.size l ∧ Below w.heap.size w w1) := B.step3 HK hB
      have hcl := HK.out.2.1.cell
      have hld := HK.out.2.1.load
      clear hB
      go_wp2_with fail
      refine (B.field_any l ok _ _).mono ?_
      rintro e w2 ⟨rfl, hB⟩
      have HK : Hid (B.Nm w2 ∧ B.Rec w2 w.heap.size l ∧ Below w.heap.size w w2) := B.step3 HK hB
      have hld := HK.out.2.1.load
      clear hB hcl
      go_wp2_with fail
      refine (B.with_any l ok _ _ HV.out _).mono ?_
      rintro e w3 ⟨rfl, hB⟩
      have HK : Hid (B.Nm w3 ∧ B.Rec w3 w.heap.size l ∧ Below w.heap.size w w3) := B.step3 HK hB
      obtain ⟨w4, hst4, hQ, _, _, hb4⟩ := B.new_rec w3 q okq.1
      have HK : Hid (B.Nm w4 ∧ B.Rec w4 w.heap.size l ∧ Below w.heap.size w w4) := B.step3 HK hb4
      have HQ : Hid (B.Rec w4 w3.heap.size q) := hQ
      clear hB hQ hb4
      go_wp2_with fail
      refine (B.awake_any _ HK.out.1).mono ?_
      rintro e w5 ⟨rfl, hB⟩
      have HK : Hid (B.Nm w5 ∧ B.Rec w5 w.heap.size l ∧ Below w.heap.size w w5) := B.step3 HK hB
      have HQ : Hid (B.Rec w5 w3.heap.size q) := HQ.out.below hB HQ.out.lt
      have hld := HK.out.2.1.load
      clear hB hst4
      go_wp2_with fail
      refine (B.rfield_any l ok _ _).mono ?_
      rintro e w6 ⟨rfl, hB⟩
      have HK : Hid (B.Nm w6 ∧ B.Rec w6 w.heap.size l ∧ Below w.heap.size w w6) := B.step3 HK hB
      have HQ : Hid (B.Rec w6 w3.heap.size q) := HQ.out.below hB HQ.out.lt
      clear hB
      go_wp2
      go_loopw [105] (fun i wr => ∃ k : Nat, k ≤ 9 ∧ i = .int .i64 k ∧ Hid (B.Nm wr ∧ B.Rec wr w.heap.size l ∧ Below w.heap.size w wr) ∧ Hid (B.Rec wr w3.heap.size q)) (fun i _ => 9 - (intOf i).toNat)
      case atStart => exact ⟨0, Nat.zero_le _, rfl, HK, HQ⟩
      case round =>
        clear HK HQ
        obtain ⟨k, hk, rfl, HK, HQ⟩ := hrel
        by_cases hlt : k < 9
        · have hw := HW.out (k : Int) (by omega) (by omega)
          have i1 : (k : Int) < 9 := by omega
          have hlq := HQ.out.load
          have c : (((k : Int) == f) = true ∧ M.field q (k : Int) = v) ∨ (((k : Int) == f) = false ∧ M.field q (k : Int) = M.field l (k : Int)) := by
            by_cases e : (k : Int) = f
            · exact .inl ⟨beq_iff_eq.2 e, by rw [hw, if_pos e]⟩
            · exact .inr ⟨beq_eq_false_iff_ne.2 e, by rw [hw, if_neg e]⟩
          clear hw
          rcases c with ⟨c1, c2⟩ | ⟨c1, c2⟩
          all_goals
            go_wp2_with fail
            refine (B.field_any q okq _ _).mono ?_
            rintro e w7 ⟨rfl, hB⟩
            have HK : Hid (B.Nm w7 ∧ B.Rec w7 w.heap.size l ∧ Below w.heap.size w w7) := B.step3 HK hB
            have HQ : Hid (B.Rec w7 w3.heap.size q) := HQ.out.below hB HQ.out.lt
            have hld := HK.out.2.1.load
            clear hB
            go_wp2_with fail
            refine (B.rfield_any l ok _ _).mono ?_
            rintro e w8 ⟨rfl, hB⟩
            have HK : Hid (B.Nm w8 ∧ B.Rec w8 w.heap.size l ∧ Below w.heap.size w w8) := B.step3 HK hB
            have HQ : Hid (B.Rec w8 w3.heap.size q) := HQ.out.below hB HQ.out.lt
            clear hB
            go_wp2
            go_roundw
            case rel => exact ⟨k + 1, by omega, by go_num, HK, HQ⟩
            case measure => simp [intOf]; omega
        · obtain rfl : k = 9 := by omega
          go_wp2
          go_ret
          exact ⟨rfl, HK.out.2.2⟩


set_option maxHeartbeats 3200000 in
set_option maxRecDepth 1000000 in
theorem walk (l0 : List Int) (ok0 : M.okR l0) (n1 : Int) (wf1 : (Lit.int .i64 n1).wf = true) (n2 : Int) (wf2 : (Lit.int .u64 n2).wf = true) (n3 : Int) (wf3 : (Lit.int .u32 n3).wf = true) (w : World) (hN : B.Nm w) :
    Calls Tryd.prog 3 #[.agg (B.enc l0), .int .i64 n1, .int .u64 n2, .int .u32 n3] w fun e w' => e = .returned (.bool true) ∧ Below w.heap.size w w' := by
  have hn := bounds_u32 wf3
  have hv := bounds_u64 wf2
  have hv' : 0 ≤ n2 ∧ n2 < 18446744073709551616 := by omega
  have hA := at_all l0 n3 (by omega)
  by_cases h0 : 0 ≤ n1
  · by_cases h9 : n1 < 9
    · have hF : M.isF n1 = true := decide_eq_true (by omega)
      by_cases h1 : 1 < n1
      · exact yes_ l0 ok0 n1 n2 n3 (by omega) hv' hA w hN (decide_eq_true h0) (decide_eq_true h9) hF (.inl (decide_eq_true h1)) (M.fits_iff.2 (by omega))
      · by_cases h3 : n2 < 4294967296
        · exact yes_ l0 ok0 n1 n2 n3 (by omega) hv' hA w hN (decide_eq_true h0) (decide_eq_true h9) hF (.inr ⟨decide_eq_false h1, decide_eq_true h3⟩) (M.fits_iff.2 (by omega))
        · have hz : M.fits n1 n2 = false := decide_eq_false (by omega)
          exact no_ l0 ok0 n1 n2 n3 (by omega) hv' hA w hN (.inr (.inr ⟨decide_eq_true h0, decide_eq_true h9, hF, decide_eq_false h1, decide_eq_false h3⟩)) hz (by unfold M.with_; rw [hz]; rfl)
    · have hz : M.fits n1 n2 = false := decide_eq_false (by omega)
      exact no_ l0 ok0 n1 n2 n3 (by omega) hv' hA w hN (.inr (.inl ⟨decide_eq_true h0, decide_eq_false h9, decide_eq_false (by omega)⟩)) hz (by unfold M.with_; rw [hz]; rfl)
  · have hz : M.fits n1 n2 = false := decide_eq_false (by omega)
    exact no_ l0 ok0 n1 n2 n3 (by omega) hv' hA w hN (.inl ⟨decide_eq_false h0, decide_eq_false (by omega)⟩) hz (by unfold M.with_; rw [hz]; rfl)

set_option maxRecDepth 100000 in
theorem lifted (os : Os) (started : os.Started) (H : Type) (enc : TypeId × Value → H) :
    ReturnsInHanded {} Tryd.checked os 3 .any (fun w args => (Rows.recordTellsSpec.pre enc Tryd.prog Tryd.f3 [] false w args ∧ laidMetH Tryd.prog B.laidL w) ∧ sizedMet enc Tryd.prog Tryd.f3 (OpenSpec.ofChange Rows.recordTellsSpec) false w args)
      (Rows.recordTellsSpec.post enc Tryd.prog Tryd.f3 false true false false) := by
  refine returnsInHanded_of_change_and (C := Tryd.checked) (X := fun w _ => laidMetH Tryd.prog B.laidL w) (fun _ _ _ hh h => h.of_heap hh) own started (by kernel_rfl) Tryd.func3
    (ChangeSpec.witness_shaped (enc := enc) (C := Tryd.checked) (os := os) (X := fun w _ => laidMetH Tryd.prog B.laidL w) false (World.doorLaid Tryd.prog 400 os) #[.agg #[.int .u32 0, .int .u32 0, .int .u32 0, .int .u32 0, .int .u32 0, .int .u32 0, .int .u32 0, .int .u32 0, .int .u32 0, .int .u32 0, .int .u32 0, .int .u32 0, .int .u32 0, .int .u32 0, .int .u32 0, .int .u32 0], .int .i64 0, .int .u64 0, .int .u32 0] 8 rfl (World.shaped_of_RefB (by kernel_rfl) (by kernel_rfl)) (by kernel_rfl) (by kernel_rfl) (by kernel_rfl) (B.door_met os _)) ?_
  intro W base args ds gs before hval0 hW _ _ hL _
  have hval : ∀ (j : Nat) t v, Tryd.f3.params[j]? = some t → args[j]? = some v → Value.okWide Tryd.prog W .any base t v := hval0
  have hW' := hW
  obtain ⟨p, q, hA0, hV, rfl, hfz, hnd⟩ := hW
  have hA : DataW.TrodAll enc Tryd.prog W 0 (fun _ => true) true Tryd.f3.params.toList args.toList ds p := hA0
  rw [Tryd.params3] at hA hval
  obtain ⟨v0, vs0, d0, ds0, p0, q0, hargs, rfl, rfl, h0, r0⟩ := trodAll_cons hA
  obtain ⟨v1, vs1, d1, ds1, p1, q1, rfl, rfl, rfl, h1, r1⟩ := trodAll_cons r0
  obtain ⟨v2, vs2, d2, ds2, p2, q2, rfl, rfl, rfl, h2, r2⟩ := trodAll_cons r1
  obtain ⟨v3, vs3, d3, ds3, p3, q3, rfl, rfl, rfl, h3, r3⟩ := trodAll_cons r2
  obtain ⟨rfl, rfl, rfl⟩ := trodAll_nil r3
  obtain rfl : args = #[v0, v1, v2, v3] := by cases args; simp_all
  obtain ⟨rfl, rfl⟩ := trodVars_none hV
  obtain ⟨l0, rfl, hp0, ok0⟩ := B.arg_rec (hval 0 24 v0 rfl rfl) h0
  obtain ⟨n1, rfl, hd1, hp1, wf1⟩ := open_int Tryd.underlying3 (hval 1 3 v1 rfl rfl) h1
  obtain ⟨n2, rfl, hd2, hp2, wf2⟩ := open_int Tryd.underlying25 (hval 2 25 v2 rfl rfl) h2
  obtain ⟨n3, rfl, hd3, hp3, wf3⟩ := open_int Tryd.underlying22 (hval 3 22 v3 rfl rfl) h3
  clear hA0 hval0
  simp only [List.append_nil] at hW'
  have hlt0 : ∀ x ∈ p0, x.block < W.heap.size := fun x hx => by simpa using hW'.lt x (by simp [hx])
  have hlt1 : ∀ x ∈ p1, x.block < W.heap.size := fun x hx => by simpa using hW'.lt x (by simp [hx])
  have hlt2 : ∀ x ∈ p2, x.block < W.heap.size := fun x hx => by simpa using hW'.lt x (by simp [hx])
  have hlt3 : ∀ x ∈ p3, x.block < W.heap.size := fun x hx => by simpa using hW'.lt x (by simp [hx])
  refine (walk l0 ok0 n1 wf1 n2 wf2 n3 wf3 W (B.of_laid hL) ).mono fun e W' ⟨he, hg⟩ => ?_
  subst he
  exact ⟨_, rfl, _, _, _, [], (p0 ++ (p1 ++ (p2 ++ (p3 ++ [])))), [], hW', (trodAll_cons_mk (shut_bool Tryd.underlying4 _) trodAll_mk0), (trodAll_cons_mk (Below.trod laidOut (by kernel_rfl) (of_decide_eq_true (by kernel_rfl)) h0 hg hlt0) (trodAll_cons_mk (Below.trod laidOut (by kernel_rfl) (of_decide_eq_true (by kernel_rfl)) h1 hg hlt1) (trodAll_cons_mk (Below.trod laidOut (by kernel_rfl) (of_decide_eq_true (by kernel_rfl)) h2 hg hlt2) (trodAll_cons_mk (Below.trod laidOut (by kernel_rfl) (of_decide_eq_true (by kernel_rfl)) h3 hg hlt3) trodAll_mk0)))), rfl, hg.frame _, fun h => by cases h⟩

theorem over : Rows.recordTellsRow.holds Tryd.pinned (OpenSpec.ofChange Rows.recordTellsSpec) :=
  OpenClaim.holds_of_wide 3 Tryd.f3 rfl rfl rfl rfl rfl rfl rfl ⟨rfl, rfl, rfl, rfl, rfl⟩ rfl rfl rfl rfl rfl (by kernel_rfl) Tryd.func3 (by kernel_rfl)
    (of_decide_eq_true (by kernel_rfl)) (by unfold Func.isWrapper; first | (rw [if_pos (by decide +kernel)]; kernel_rfl) | (rw [if_neg (by decide +kernel)]; exact ⟨rfl, rfl⟩))
    (fun os started H enc _ => lifted os started H enc)

theorem proved : Rows.RecordTellsCardSaid :=
  Claim7.holds_tied_plain_at .later [] [.data] true (true, "09afddfe84cc98cca8d139d8bdbb4c0819ebacbcdf3cf43e811ae0c1d9354eb8") false
    over (fun _ h => by cases h) (by kernel_rfl) (fun _ h => by cases h) recordTells_row_tie rfl ⟨rfl, rfl⟩ (by kernel_rfl) rfl
    (fun f fn hf hfn => by
      obtain rfl : f = 3 := Option.some.inj ((show Tryd.prog.funcNamed "tamis/tamislaw03.RecordTells" = some 3 by kernel_rfl).symm.trans hf) |>.symm
      obtain rfl : fn = Tryd.f3 := (Option.some.inj (Tryd.func3.symm.trans hfn)).symm
      exact ⟨by kernel_rfl, fun j t ht => by
        rw [Tryd.params3] at ht
        have hm : t ∈ [24, 3, 25, 22] := by simpa using Array.mem_of_getElem? ht
        have hall : ([24, 3, 25, 22].all fun u => !Tryd.prog.wantsStandIn u) = true := by kernel_rfl
        exact (show Tryd.prog.wantsStandIn t = false by simpa using List.all_eq_true.1 hall t hm)⟩)
    (by kernel_rfl)
#print axioms proved
end Go.Proofs.YtgdgigldodbpeaaDoor.recordTells
