/-
  For every code: with the bit for X it looks at X, and without it it doesn't, but for those that move or keep X; what returns, or jumps, writes nothing; no condition.
-/
import Derived.Test.YtmooalbbaiccjaaRows
import Derived.WalkKit
import Derived.ProofKit
import Derived.OpenShut
import Derived.Test.YtmooalbbaiccjaaCodAwake
import Derived.WalkLawsBesides
namespace Go.Proofs.Ytmooalbbaiccjaa.codeX
open Go.ChangeShapes Go.WideShapes Go.ChangeAt Go.RowKit
set_option linter.unusedVariables false

theorem own : ownKnob Try.prog.godebug = none := by kernel_rfl

def profs : List (Int × Bool × Bool × Bool × Bool × Bool × Bool) := [(1, false, false, true, false, false, false), (2, false, false, true, false, false, false), (3, false, false, true, false, false, false), (4, false, false, true, false, false, false), (5, false, false, false, true, false, false), (6, false, false, false, true, false, false), (7, false, false, false, true, false, false), (8, true, false, false, false, false, false), (9, false, true, false, false, false, false), (10, true, false, true, false, false, false), (10, true, true, true, false, false, true), (11, false, false, false, false, false, false), (12, true, false, false, false, false, false), (12, true, true, false, false, false, true), (13, false, false, false, false, true, false), (14, true, false, false, false, true, false), (15, true, false, false, true, false, false), (16, false, true, true, false, false, false)]
theorem prof : ∀ c ∈ M.codes, (M.kind c, M.rdA c, M.rdX c, M.wrA c, M.wrX c, M.ends c, (M.kind c == 10 || M.kind c == 12) && c / 8 % 2 == 1) ∈ profs := by decide
set_option maxHeartbeats 4000000 in
set_option maxRecDepth 100000 in
theorem core (a0 : Int) (w : World) (p : Int × Bool × Bool × Bool × Bool × Bool × Bool) (hp : p ∈ profs) (e1 : M.kind a0 = p.1) (e2 : M.rdA a0 = p.2.1) (e3 : M.rdX a0 = p.2.2.1) (e4 : M.wrA a0 = p.2.2.2.1) (e5 : M.wrX a0 = p.2.2.2.2.1) (e6 : M.ends a0 = p.2.2.2.2.2.1)
    (e7 : (M.kind a0 == 10 || M.kind a0 == 12) = true → (bits BinOp.and IntKind.u16 a0 8 != 0) = p.2.2.2.2.2.2) :
    Calls Try.prog 6 #[.int .u16 a0] w fun e w' => e = .returned (.bool true) ∧ Below w.heap.size w w' := by
  have HB : Hid (Below w.heap.size w w) := Below.refl _ _
  simp only [profs, List.mem_cons, List.not_mem_nil, or_false] at hp
  rcases hp with rfl | rfl | rfl | rfl | rfl | rfl | rfl | rfl | rfl | rfl | rfl | rfl | rfl | rfl | rfl | rfl | rfl | rfl
  all_goals simp only at e1 e2 e3 e4 e5 e6 e7
  all_goals rw [e1] at e7
  all_goals simp only [Int.reduceBEq, Bool.or_false, Bool.or_true, Bool.or_self, forall_const, Bool.false_eq_true, false_implies] at e7
  all_goals
    go_enter Try.func6, Try.ntmps6
    go_wp2_with (first
      | (go_at_call 8; refine (B.reads_any _ _).mono ?_; rintro e w' ⟨rfl, rfl⟩)
      | (go_at_call 9; refine (B.writes_any _ _).mono ?_; rintro e w' ⟨rfl, rfl⟩)
      | (go_at_call 12; refine (B.kind_any _ _).mono ?_; rintro e w' ⟨rfl, rfl⟩)
      | (go_at_call 15; refine (B.ends_any _ _).mono ?_; rintro e w' ⟨rfl, rfl⟩)
      | (go_at_call 13; refine (B.name_any _ _).mono ?_; rintro e w' ⟨rfl, hb⟩; replace HB := B.stp HB hb; clear hb)
      | (go_at_call 11; refine (B.awake_any _).mono ?_; rintro e w' ⟨rfl, hb⟩; replace HB := B.stp HB hb; clear hb)
      | go_in)
    go_ret
    exact ⟨rfl, HB.out⟩
set_option maxHeartbeats 1600000 in
set_option maxRecDepth 100000 in
theorem walk (a0 : Int) (w0 : (Lit.int .u16 a0).wf = true) (w : World) :
    Calls Try.prog 6 #[.int .u16 a0] w fun e w' => e = .returned (.bool true) ∧ Below w.heap.size w w' := by
  clear w0
  by_cases hc : a0 ∈ M.codes
  · refine core a0 w _ (prof a0 hc) rfl rfl rfl rfl rfl rfl ?_
    intro h
    rw [B.bit8 a0 hc, h]
    rfl
  · have hk := M.kind_none hc
    have HB : Hid (Below w.heap.size w w) := Below.refl _ _
    clear hc
    go_enter Try.func6, Try.ntmps6
    go_wp2_with (first
      | (go_at_call 8; refine (B.reads_any _ _).mono ?_; rintro e w' ⟨rfl, rfl⟩)
      | (go_at_call 9; refine (B.writes_any _ _).mono ?_; rintro e w' ⟨rfl, rfl⟩)
      | (go_at_call 12; refine (B.kind_any _ _).mono ?_; rintro e w' ⟨rfl, rfl⟩)
      | (go_at_call 15; refine (B.ends_any _ _).mono ?_; rintro e w' ⟨rfl, rfl⟩)
      | (go_at_call 13; refine (B.name_any _ _).mono ?_; rintro e w' ⟨rfl, hb⟩; replace HB := B.stp HB hb; clear hb)
      | (go_at_call 11; refine (B.awake_any _).mono ?_; rintro e w' ⟨rfl, hb⟩; replace HB := B.stp HB hb; clear hb)
      | go_in)
    go_ret
    exact ⟨rfl, HB.out⟩

set_option maxRecDepth 100000 in
theorem lifted (os : Os) (started : os.Started) (H : Type) (enc : TypeId × Value → H) :
    ReturnsInHanded {} Try.checked os 6 .any (Rows.codeXSpec.pre6 enc Try.prog Try.f6 Rows.codeXRow.domain false) (Rows.codeXSpec.post enc Try.prog Try.f6 false true false false) := by
  refine returnsInHanded_of_change (C := Try.checked) own started (by kernel_rfl) Try.func6
    (ChangeSpec.witness6 (enc := enc) (C := Try.checked) false ⟨#[], #[.int .u16 0], []⟩ 8 (by kernel_rfl) (by kernel_rfl) (by kernel_rfl) (by kernel_rfl)) ?_
  intro W base args ds gs before hval0 hW hcnd _
  have hval : ∀ (j : Nat) t v, Try.f6.params[j]? = some t → args[j]? = some v → Value.okWide Try.prog W .any base t v := hval0
  have hW' := hW
  obtain ⟨p, q, hA0, hV, rfl, hfz, hnd⟩ := hW
  have hA : DataW.TrodAll enc Try.prog W 0 (fun _ => true) true Try.f6.params.toList args.toList ds p := hA0
  rw [Try.params6] at hA hval
  obtain ⟨v0, vs0, d0, ds0, p0, q0, hargs, rfl, rfl, h0, r0⟩ := trodAll_cons hA
  obtain ⟨rfl, rfl, rfl⟩ := trodAll_nil r0
  obtain rfl : args = #[v0] := by cases args; simp_all
  obtain ⟨rfl, rfl⟩ := trodVars_none hV
  obtain ⟨a0, rfl, rfl, rfl, w0⟩ := open_int Try.underlying22 (hval 0 22 v0 rfl rfl) h0
  clear hA0 hval0
  simp only [List.append_nil] at hW'
  refine (walk a0 w0 W).mono fun e W' ⟨he, hg⟩ => ?_
  subst he
  exact ⟨_, rfl, _, _, _, [], [], [], hW', (trodAll_cons_mk (shut_bool Try.underlying4 _) trodAll_mk0), (trodAll_cons_mk (shut_int Try.underlying22 w0) trodAll_mk0), rfl, hg.frame _, fun h => by cases h⟩

theorem over : Rows.codeXRow.holds Try.pinned (OpenSpec.ofChange Rows.codeXSpec) :=
  OpenClaim.holds_of_wide 6 Try.f6 rfl rfl rfl rfl rfl rfl rfl ⟨rfl, rfl, rfl, rfl, rfl⟩ rfl rfl rfl rfl rfl (by kernel_rfl) Try.func6 (by kernel_rfl)
    (of_decide_eq_true (by kernel_rfl)) (by unfold Func.isWrapper; first | (rw [if_pos (by decide +kernel)]; kernel_rfl) | (rw [if_neg (by decide +kernel)]; exact ⟨rfl, rfl⟩))
    (fun os started H enc _ => lifted os started H enc)

theorem proved : Rows.CodeXSaid :=
  over
#print axioms proved
end Go.Proofs.Ytmooalbbaiccjaa.codeX
