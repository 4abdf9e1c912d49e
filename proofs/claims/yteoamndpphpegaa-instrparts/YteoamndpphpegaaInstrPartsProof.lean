/-
  For every instruction, its class, what it reckons or asks and where its other number comes from make its code's lower byte, and its eight bytes are the document's; no condition.
-/
import Derived.Test.YteoamndpphpegaaRows
import Derived.WalkKit
import Derived.ProofKit
import Derived.OpenShut
import Derived.Carry
import Derived.Test.YteoamndpphpegaaInsAwake
import Derived.Test.YteoamndpphpegaaInsArgs
import Derived.Deep.RegionHeldLaw
namespace Go.Proofs.Yteoamndpphpegaa.instrParts
open Go.ChangeShapes Go.WideShapes Go.ChangeAt Go.RowKit
set_option linter.unusedVariables false

theorem own : ownKnob Try.prog.godebug = none := by kernel_rfl
theorem laidOut : laidOutB Try.prog = true := by kernel_rfl
set_option maxHeartbeats 3200000 in
set_option maxRecDepth 1000000 in
theorem core (c t f k A O E x : Int) (q : Bool) (ok : M.okI (c, t, f, k)) (w : World)
    (hq : decide (c / 8 % 2 = 1) = q) (hx : (if q = true then 8 else 0) = x) (eA : c % 8 = A) (eB : c / 16 % 16 * 16 = O) (eE : bits .and .u16 c 255 = E)
    (w1 : IntKind.i64.wrap (A + O) = A + O) (w2 : IntKind.i64.wrap (A + O + x) = E) (w3 : IntKind.i64.wrap E = E) (w4 : x = 0 → (A + O == E) = true) :
    Calls Try.prog 5 #[.agg #[.int .u16 c, .int .u8 t, .int .u8 f, .int .u32 k]] w fun e w' => e = .returned (.bool true) ∧ Below w.heap.size w w' := by
  have HX : Hid ((if q = true then 8 else 0) = x) := hx
  have HQ : Hid (decide (c / 8 % 2 = 1) = q) := hq
  clear hx hq
  have fx : ∀ w : World, Calls Try.prog 15 #[.agg #[.int .u16 c, .int .u8 t, .int .u8 f, .int .u32 k]] w fun e w' => e = .returned (.bool q) ∧ Below w.heap.size w w' := fun w => by
    rw [← HQ.out]; exact B.fromx_any c t f k ok w
  have ca : ∀ w : World, Calls Try.prog 16 #[.agg #[.int .u16 c, .int .u8 t, .int .u8 f, .int .u32 k]] w fun e w' => e = .returned (.int .i64 A) ∧ Below w.heap.size w w' := fun w => by
    rw [← eA]; exact B.class_any c t f k ok w
  have oa : ∀ w : World, Calls Try.prog 17 #[.agg #[.int .u16 c, .int .u8 t, .int .u8 f, .int .u32 k]] w fun e w' => e = .returned (.int .i64 O) ∧ Below w.heap.size w w' := fun w => by
    rw [← eB]; exact B.op_any c t f k ok w
  have HF : Hid (∀ w : World, Calls Try.prog 15 #[.agg #[.int .u16 c, .int .u8 t, .int .u8 f, .int .u32 k]] w fun e w' => e = .returned (.bool q) ∧ Below w.heap.size w w') := fx
  have HC : Hid (∀ w : World, Calls Try.prog 16 #[.agg #[.int .u16 c, .int .u8 t, .int .u8 f, .int .u32 k]] w fun e w' => e = .returned (.int .i64 A) ∧ Below w.heap.size w w') := ca
  have HO : Hid (∀ w : World, Calls Try.prog 17 #[.agg #[.int .u16 c, .int .u8 t, .int .u8 f, .int .u32 k]] w fun e w' => e = .returned (.int .i64 O) ∧ Below w.heap.size w w') := oa
  clear fx ca oa eA eB
  go_enter Try.func5, Try.ntmps5
  go_wp2_with fail
  refine (HF.out _).mono ?_
  rintro e w1 ⟨rfl, hB1⟩
  have c0 := hB1.cell (p := ⟨w.heap.size, 0, none⟩) (by simp)
  have c1 := hB1.cell (p := ⟨w.heap.size, 1, none⟩) (by simp)
  have c2 := hB1.cell (p := ⟨w.heap.size, 2, none⟩) (by simp)
  have c3 := hB1.cell (p := ⟨w.heap.size, 3, none⟩) (by simp)
  have hz1 := hB1.size
  simp [go_sem] at hz1 c0 c1 c2 c3
  have hbw : Below w.heap.size w w1 := ((Below.refl _ _).alloc (Nat.le_refl _) _).trans (hB1.mono (by simp))
  have hz : w.heap.size < w1.heap.size := by omega
  clear hB1 hz1 HF
  cases q
  all_goals
    simp at HX
    obtain rfl := HX
    first | have h4 := w4 rfl | skip
    clear w4
    go_wp2_with fail
    go_region_held_law (fun w' => (∀ b o, b < w1.heap.size → w'.cell? ⟨b, o, none⟩ = w1.cell? ⟨b, o, none⟩) ∧ Below w1.heap.size w1 w')
      ((go_split_ands; refine B.bkeep ?_; first | exact (Below.refl _ _).drew | assumption | exact B.below_drawn (by assumption) _ | exact Below.trans (by assumption) (Below.mono (by assumption) (Below.size (by assumption))) | exact Below.alloc (by assumption) (Below.size (by assumption)) _))
      (first
        | (go_at_call 8; refine (B.awake_any _).mono ?_; rintro e w' ⟨rfl, hB⟩)
        | (go_at_call 16; refine (HC.out _).mono ?_; rintro e w' ⟨rfl, hB⟩)
        | (go_at_call 17; refine (HO.out _).mono ?_; rintro e w' ⟨rfl, hB⟩)
        | (go_at_call 18; refine (B.one_any c t f k ok _).mono ?_; rintro e w' ⟨rfl, hB⟩)
        | (go_at_call 19; refine (B.rone_any c t f k ok _).mono ?_; rintro e w' ⟨rfl, hB⟩))
    go_split_ands
    have hfin : Below w.heap.size w _ := hbw.trans (Below.mono (by assumption) hbw.size)
    go_wp2
    go_ret
    exact ⟨rfl, hfin⟩

set_option maxHeartbeats 3200000 in
set_option maxRecDepth 1000000 in
theorem walk (c0 t0 f0 k0 : Int) (ok0 : M.okI (c0, t0, f0, k0)) (w : World) :
    Calls Try.prog 5 #[.agg #[.int .u16 c0, .int .u8 t0, .int .u8 f0, .int .u32 k0]] w fun e w' => e = .returned (.bool true) ∧ Below w.heap.size w w' := by
  have h0 : 0 ≤ c0 := ok0.1.1
  have h1 : c0 < 65536 := ok0.1.2
  refine core c0 t0 f0 k0 _ _ _ _ _ ok0 w rfl rfl rfl rfl (B.and_byte c0 h0 h1) ?_ ?_ ?_ ?_
  · rw [IntKind.wrap_i64]; omega
  · rw [IntKind.wrap_i64]; simp only [decide_eq_true_eq]; split <;> omega
  · rw [IntKind.wrap_i64]; omega
  · simp only [decide_eq_true_eq, beq_iff_eq]; split <;> omega

set_option maxRecDepth 100000 in
theorem lifted (os : Os) (started : os.Started) (H : Type) (enc : TypeId × Value → H) :
    ReturnsInHanded {} Try.checked os 5 .any (Rows.instrPartsSpec.pre6 enc Try.prog Try.f5 Rows.instrPartsRow.domain false) (Rows.instrPartsSpec.post enc Try.prog Try.f5 false true false false) := by
  refine returnsInHanded_of_change (C := Try.checked) own started (by kernel_rfl) Try.func5
    (ChangeSpec.witness6 (enc := enc) (C := Try.checked) false ⟨#[], #[.agg #[.int .u16 0, .int .u8 0, .int .u8 0, .int .u32 0]], []⟩ 8 (by kernel_rfl) (by kernel_rfl) (by kernel_rfl) (by kernel_rfl)) ?_
  intro W base args ds gs before hval0 hW hcnd _
  have hval : ∀ (j : Nat) t v, Try.f5.params[j]? = some t → args[j]? = some v → Value.okWide Try.prog W .any base t v := hval0
  have hW' := hW
  obtain ⟨p, q, hA0, hV, rfl, hfz, hnd⟩ := hW
  have hA : DataW.TrodAll enc Try.prog W 0 (fun _ => true) true Try.f5.params.toList args.toList ds p := hA0
  rw [Try.params5] at hA hval
  obtain ⟨v0, vs0, d0, ds0, p0, q0, hargs, rfl, rfl, h0, r0⟩ := trodAll_cons hA
  obtain ⟨rfl, rfl, rfl⟩ := trodAll_nil r0
  obtain rfl : args = #[v0] := by cases args; simp_all
  obtain ⟨rfl, rfl⟩ := trodVars_none hV
  obtain ⟨c0, t0, f0, k0, rfl, hp0, ok0⟩ := B.arg_one (hval 0 39 v0 rfl rfl) h0
  clear hA0 hval0
  simp only [List.append_nil] at hW'
  have hlt0 : ∀ x ∈ p0, x.block < W.heap.size := fun x hx => by simpa using hW'.lt x (by simp [hx])
  refine (walk c0 t0 f0 k0 ok0 W ).mono fun e W' ⟨he, hg⟩ => ?_
  subst he
  exact ⟨_, rfl, _, _, _, [], (p0 ++ []), [], hW', (trodAll_cons_mk (shut_bool Try.underlying4 _) trodAll_mk0), (trodAll_cons_mk (Below.trod laidOut (by kernel_rfl) (of_decide_eq_true (by kernel_rfl)) h0 hg hlt0) trodAll_mk0), rfl, hg.frame _, fun h => by cases h⟩

theorem over : Rows.instrPartsRow.holds Try.pinned (OpenSpec.ofChange Rows.instrPartsSpec) :=
  OpenClaim.holds_of_wide 5 Try.f5 rfl rfl rfl rfl rfl rfl rfl ⟨rfl, rfl, rfl, rfl, rfl⟩ rfl rfl rfl rfl rfl (by kernel_rfl) Try.func5 (by kernel_rfl)
    (of_decide_eq_true (by kernel_rfl)) (by unfold Func.isWrapper; first | (rw [if_pos (by decide +kernel)]; kernel_rfl) | (rw [if_neg (by decide +kernel)]; exact ⟨rfl, rfl⟩))
    (fun os started H enc _ => lifted os started H enc)

theorem proved : Rows.InstrPartsSaid :=
  over
#print axioms proved
end Go.Proofs.Yteoamndpphpegaa.instrParts
