/-
  For every code its kind, its name, what it looks at and what it writes, told by package code, is what the document's reference tells; no condition.
-/
import Derived.Test.YtmooalbbaiccjaaRows
import Derived.WalkKit
import Derived.ProofKit
import Derived.OpenShut
import Derived.Test.YtmooalbbaiccjaaCodAwake
import Derived.WalkLawsBesides
namespace Go.Proofs.Ytmooalbbaiccjaa.codeTells
open Go.ChangeShapes Go.WideShapes Go.ChangeAt Go.RowKit
set_option linter.unusedVariables false

theorem own : ownKnob Try.prog.godebug = none := by kernel_rfl

set_option maxHeartbeats 1600000 in
set_option maxRecDepth 100000 in
theorem walk (a0 : Int) (w0 : (Lit.int .u16 a0).wf = true) (w : World) :
    Calls Try.prog 3 #[.int .u16 a0] w fun e w' => e = .returned (.bool true) ∧ Below w.heap.size w w' := by
  have b0 := bounds_u16 w0
  have h0 : 0 ≤ a0 := by omega
  have h1 : a0 < 65536 := by omega
  have HB : Hid (Below w.heap.size w w) := Below.refl _ _
  have he : M.ends a0 = (M.kind a0 == 13 || M.kind a0 == 14) := rfl
  clear w0 b0
  go_enter Try.func3, Try.ntmps3
  go_wp2_with (first
    | (go_at_call 8; refine (B.reads_any _ _).mono ?_; rintro e w' ⟨rfl, rfl⟩)
    | (go_at_call 9; refine (B.writes_any _ _).mono ?_; rintro e w' ⟨rfl, rfl⟩)
    | (go_at_call 12; refine (B.kind_any _ _).mono ?_; rintro e w' ⟨rfl, rfl⟩)
    | (go_at_call 15; refine (B.ends_any _ _).mono ?_; rintro e w' ⟨rfl, rfl⟩)
    | (go_at_call 13; refine (B.name_any _ _).mono ?_; rintro e w' ⟨rfl, hb⟩; replace HB := B.stp HB hb; clear hb)
    | (go_at_call 11; refine (B.awake_any _).mono ?_; rintro e w' ⟨rfl, hb⟩; replace HB := B.stp HB hb; clear hb)
    | (go_at_call 10; refine (B.rkind_any _ h0 h1 _).mono ?_; rintro e w' ⟨rfl, hb⟩; replace HB := B.stp HB hb; clear hb)
    | (go_at_call 14; refine (B.rname_any _ _).mono ?_; rintro e w' ⟨rfl, hb⟩; replace HB := B.stp HB hb; clear hb)
    | (go_at_call 16; refine (B.rrdA_any _ h0 h1 _).mono ?_; rintro e w' ⟨rfl, hb⟩; replace HB := B.stp HB hb; clear hb)
    | (go_at_call 17; refine (B.rrdX_any _ h0 h1 _).mono ?_; rintro e w' ⟨rfl, hb⟩; replace HB := B.stp HB hb; clear hb)
    | (go_at_call 18; refine (B.rwrA_any _ h0 h1 _).mono ?_; rintro e w' ⟨rfl, hb⟩; replace HB := B.stp HB hb; clear hb)
    | (go_at_call 19; refine (B.rwrX_any _ h0 h1 _).mono ?_; rintro e w' ⟨rfl, hb⟩; replace HB := B.stp HB hb; clear hb)
    | go_in)
  all_goals go_ret
  all_goals exact ⟨by simp [*], HB.out⟩

set_option maxRecDepth 100000 in
theorem lifted (os : Os) (started : os.Started) (H : Type) (enc : TypeId × Value → H) :
    ReturnsInHanded {} Try.checked os 3 .any (Rows.codeTellsSpec.pre6 enc Try.prog Try.f3 Rows.codeTellsRow.domain false) (Rows.codeTellsSpec.post enc Try.prog Try.f3 false true false false) := by
  refine returnsInHanded_of_change (C := Try.checked) own started (by kernel_rfl) Try.func3
    (ChangeSpec.witness6 (enc := enc) (C := Try.checked) false ⟨#[], #[.int .u16 0], []⟩ 8 (by kernel_rfl) (by kernel_rfl) (by kernel_rfl) (by kernel_rfl)) ?_
  intro W base args ds gs before hval0 hW hcnd _
  have hval : ∀ (j : Nat) t v, Try.f3.params[j]? = some t → args[j]? = some v → Value.okWide Try.prog W .any base t v := hval0
  have hW' := hW
  obtain ⟨p, q, hA0, hV, rfl, hfz, hnd⟩ := hW
  have hA : DataW.TrodAll enc Try.prog W 0 (fun _ => true) true Try.f3.params.toList args.toList ds p := hA0
  rw [Try.params3] at hA hval
  obtain ⟨v0, vs0, d0, ds0, p0, q0, hargs, rfl, rfl, h0, r0⟩ := trodAll_cons hA
  obtain ⟨rfl, rfl, rfl⟩ := trodAll_nil r0
  obtain rfl : args = #[v0] := by cases args; simp_all
  obtain ⟨rfl, rfl⟩ := trodVars_none hV
  obtain ⟨a0, rfl, rfl, rfl, w0⟩ := open_int Try.underlying22 (hval 0 22 v0 rfl rfl) h0
  clear hA0 hval0
  simp only [List.append_nil] at hW'
  refine (walk a0 w0 W).mono fun e W' ⟨he, hg⟩ => ?_
  subst he
  exact ⟨_, rfl, _, _, _, [], [], [], hW', (trodAll_cons_mk (shut_bool Try.underlying4 _) trodAll_mk0), (trodAll_cons_mk (shut_int Try.underlying22 w0) trodAll_mk0), rfl, hg.frame _, fun h => by cases h⟩

theorem over : Rows.codeTellsRow.holds Try.pinned (OpenSpec.ofChange Rows.codeTellsSpec) :=
  OpenClaim.holds_of_wide 3 Try.f3 rfl rfl rfl rfl rfl rfl rfl ⟨rfl, rfl, rfl, rfl, rfl⟩ rfl rfl rfl rfl rfl (by kernel_rfl) Try.func3 (by kernel_rfl)
    (of_decide_eq_true (by kernel_rfl)) (by unfold Func.isWrapper; first | (rw [if_pos (by decide +kernel)]; kernel_rfl) | (rw [if_neg (by decide +kernel)]; exact ⟨rfl, rfl⟩))
    (fun os started H enc _ => lifted os started H enc)

theorem proved : Rows.CodeTellsSaid :=
  over
#print axioms proved
end Go.Proofs.Ytmooalbbaiccjaa.codeTells
