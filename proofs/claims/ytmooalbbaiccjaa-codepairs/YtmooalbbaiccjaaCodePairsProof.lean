/-
  For every code that reckons, or asks, but the one that turns the sign: without X it has a twin with X, whose name is one x longer; with X it is such a twin; no condition.
-/
import Derived.Test.YtmooalbbaiccjaaRows
import Derived.WalkKit
import Derived.ProofKit
import Derived.OpenShut
import Derived.Test.YtmooalbbaiccjaaCodAwake
import Derived.WalkLawsBesides
import Derived.Laws.Concat
import Derived.Laws.Strings
namespace Go.Proofs.Ytmooalbbaiccjaa.codePairs
open Go.ChangeShapes Go.WideShapes Go.ChangeAt Go.RowKit
set_option linter.unusedVariables false

theorem own : ownKnob Try.prog.godebug = none := by kernel_rfl

theorem cat (s : List UInt8) : (((⟨s.toArray⟩ : ByteArray) ++ ⟨#[120]⟩).toList == s ++ [120]) = true := by
  have e : ((⟨s.toArray⟩ : ByteArray) ++ ⟨#[120]⟩) = ⟨(s ++ [120]).toArray⟩ := ByteArray.mk_append_mk s [120]
  rw [e, ByteArray.toList_mk]
  simp
theorem twins : ∀ c ∈ M.codes, (M.kind c == 10 || M.kind c == 12) = true → (c == 132) = false →
    (M.rdX c = true ∧ IntKind.u16.wrap (c - 8) = c - 8 ∧ M.kind (c - 8) = M.kind c ∧ M.name c = M.name (c - 8) ++ [120] ∧ (M.name (c - 8)).length ≤ 6) ∨
    (M.rdX c = false ∧ IntKind.u16.wrap (c + 8) = c + 8 ∧ M.kind (c + 8) = M.kind c ∧ M.name (c + 8) = M.name c ++ [120] ∧ (M.name c).length ≤ 6) := by decide +kernel
set_option maxHeartbeats 4000000 in
set_option maxRecDepth 100000 in
theorem core (a0 b k : Int) (s : List UInt8) (w : World) (hk : k = 10 ∨ k = 12) (h84 : (a0 == 132) = false) (e1 : M.kind a0 = k) (e2 : M.kind b = k) (hs : s.length ≤ 6)
    (h : (M.rdX a0 = true ∧ IntKind.u16.wrap (a0 - 8) = b ∧ M.name a0 = s ++ [120] ∧ M.name b = s) ∨ (M.rdX a0 = false ∧ IntKind.u16.wrap (a0 + 8) = b ∧ M.name a0 = s ∧ M.name b = s ++ [120])) :
    Calls Try.prog 7 #[.int .u16 a0] w fun e w' => e = .returned (.bool true) ∧ Below w.heap.size w w' := by
  have HB : Hid (Below w.heap.size w w) := Below.refl _ _
  have hsz : (⟨s.toArray⟩ : ByteArray).size ≤ 6 := by show s.toArray.size ≤ 6; simpa using hs
  rcases hk with rfl | rfl <;> rcases h with ⟨h1, h2, h3, h4⟩ | ⟨h1, h2, h3, h4⟩
  all_goals
    go_enter Try.func7, Try.ntmps7
    go_wp2_with (first
      | (go_at_call 8; refine (B.reads_any _ _).mono ?_; rintro e w' ⟨rfl, rfl⟩)
      | (go_at_call 9; refine (B.writes_any _ _).mono ?_; rintro e w' ⟨rfl, rfl⟩)
      | (go_at_call 12; refine (B.kind_any _ _).mono ?_; rintro e w' ⟨rfl, rfl⟩)
      | (go_at_call 15; refine (B.ends_any _ _).mono ?_; rintro e w' ⟨rfl, rfl⟩)
      | (go_at_call 13; refine (B.name_any _ _).mono ?_; rintro e w' ⟨rfl, hb⟩; replace HB := B.stp HB hb; clear hb)
      | (go_at_call 11; refine (B.awake_any _).mono ?_; rintro e w' ⟨rfl, hb⟩; replace HB := B.stp HB hb; clear hb)
      | go_in)
    go_ret
    exact ⟨congrArg (fun b => Ending.returned (Value.bool b)) (cat s), HB.out⟩
set_option maxHeartbeats 1600000 in
set_option maxRecDepth 100000 in
theorem walk (a0 : Int) (w0 : (Lit.int .u16 a0).wf = true) (w : World) :
    Calls Try.prog 7 #[.int .u16 a0] w fun e w' => e = .returned (.bool true) ∧ Below w.heap.size w w' := by
  clear w0
  by_cases hc : a0 ∈ M.codes
  · by_cases hk : (M.kind a0 == 10 || M.kind a0 == 12) = true
    · have hk' : M.kind a0 = 10 ∨ M.kind a0 = 12 := by simpa using hk
      cases h84 : a0 == 132
      · rcases twins a0 hc hk h84 with ⟨t1, t2, t3, t4, t5⟩ | ⟨t1, t2, t3, t4, t5⟩
        · exact core a0 _ _ _ w hk' h84 rfl t3 t5 (.inl ⟨t1, t2, t4, rfl⟩)
        · exact core a0 _ _ _ w hk' h84 rfl t3 t5 (.inr ⟨t1, t2, rfl, t4⟩)
      · obtain rfl := eq_of_beq h84
        have hx : M.kind 132 = 10 := by decide
        have HB : Hid (Below w.heap.size w w) := Below.refl _ _
        clear hc hk hk' h84
        go_enter Try.func7, Try.ntmps7
        go_wp2_with (first
          | (go_at_call 8; refine (B.reads_any _ _).mono ?_; rintro e w' ⟨rfl, rfl⟩)
          | (go_at_call 9; refine (B.writes_any _ _).mono ?_; rintro e w' ⟨rfl, rfl⟩)
          | (go_at_call 12; refine (B.kind_any _ _).mono ?_; rintro e w' ⟨rfl, rfl⟩)
          | (go_at_call 15; refine (B.ends_any _ _).mono ?_; rintro e w' ⟨rfl, rfl⟩)
          | (go_at_call 13; refine (B.name_any _ _).mono ?_; rintro e w' ⟨rfl, hb⟩; replace HB := B.stp HB hb; clear hb)
          | (go_at_call 11; refine (B.awake_any _).mono ?_; rintro e w' ⟨rfl, hb⟩; replace HB := B.stp HB hb; clear hb)
          | go_in)
        go_ret
        exact ⟨rfl, HB.out⟩
    · have hk' : ¬ (M.kind a0 = 10 ∨ M.kind a0 = 12) := by simpa using hk
      have k1 : (M.kind a0 == 10) = false := by simp; omega
      have k2 : (M.kind a0 == 12) = false := by simp; omega
      have HB : Hid (Below w.heap.size w w) := Below.refl _ _
      clear hc hk hk'
      go_enter Try.func7, Try.ntmps7
      go_wp2_with (first
        | (go_at_call 8; refine (B.reads_any _ _).mono ?_; rintro e w' ⟨rfl, rfl⟩)
        | (go_at_call 9; refine (B.writes_any _ _).mono ?_; rintro e w' ⟨rfl, rfl⟩)
        | (go_at_call 12; refine (B.kind_any _ _).mono ?_; rintro e w' ⟨rfl, rfl⟩)
        | (go_at_call 15; refine (B.ends_any _ _).mono ?_; rintro e w' ⟨rfl, rfl⟩)
        | (go_at_call 13; refine (B.name_any _ _).mono ?_; rintro e w' ⟨rfl, hb⟩; replace HB := B.stp HB hb; clear hb)
        | (go_at_call 11; refine (B.awake_any _).mono ?_; rintro e w' ⟨rfl, hb⟩; replace HB := B.stp HB hb; clear hb)
        | go_in)
      go_ret
      exact ⟨rfl, HB.out⟩
  · have hk := M.kind_none hc
    have HB : Hid (Below w.heap.size w w) := Below.refl _ _
    clear hc
    go_enter Try.func7, Try.ntmps7
    go_wp2_with (first
      | (go_at_call 8; refine (B.reads_any _ _).mono ?_; rintro e w' ⟨rfl, rfl⟩)
      | (go_at_call 9; refine (B.writes_any _ _).mono ?_; rintro e w' ⟨rfl, rfl⟩)
      | (go_at_call 12; refine (B.kind_any _ _).mono ?_; rintro e w' ⟨rfl, rfl⟩)
      | (go_at_call 15; refine (B.ends_any _ _).mono ?_; rintro e w' ⟨rfl, rfl⟩)
      | (go_at_call 13; refine (B.name_any _ _).mono ?_; rintro e w' ⟨rfl, hb⟩; replace HB := B.stp HB hb; clear hb)
      | (go_at_call 11; refine (B.awake_any _).mono ?_; rintro e w' ⟨rfl, hb⟩; replace HB := B.stp HB hb; clear hb)
      | go_in)
    go_ret
    exact ⟨rfl, HB.out⟩

set_option maxRecDepth 100000 in
theorem lifted (os : Os) (started : os.Started) (H : Type) (enc : TypeId × Value → H) :
    ReturnsInHanded {} Try.checked os 7 .any (Rows.codePairsSpec.pre6 enc Try.prog Try.f7 Rows.codePairsRow.domain false) (Rows.codePairsSpec.post enc Try.prog Try.f7 false true false false) := by
  refine returnsInHanded_of_change (C := Try.checked) own started (by kernel_rfl) Try.func7
    (ChangeSpec.witness6 (enc := enc) (C := Try.checked) false ⟨#[], #[.int .u16 0], []⟩ 8 (by kernel_rfl) (by kernel_rfl) (by kernel_rfl) (by kernel_rfl)) ?_
  intro W base args ds gs before hval0 hW hcnd _
  have hval : ∀ (j : Nat) t v, Try.f7.params[j]? = some t → args[j]? = some v → Value.okWide Try.prog W .any base t v := hval0
  have hW' := hW
  obtain ⟨p, q, hA0, hV, rfl, hfz, hnd⟩ := hW
  have hA : DataW.TrodAll enc Try.prog W 0 (fun _ => true) true Try.f7.params.toList args.toList ds p := hA0
  rw [Try.params7] at hA hval
  obtain ⟨v0, vs0, d0, ds0, p0, q0, hargs, rfl, rfl, h0, r0⟩ := trodAll_cons hA
  obtain ⟨rfl, rfl, rfl⟩ := trodAll_nil r0
  obtain rfl : args = #[v0] := by cases args; simp_all
  obtain ⟨rfl, rfl⟩ := trodVars_none hV
  obtain ⟨a0, rfl, rfl, rfl, w0⟩ := open_int Try.underlying22 (hval 0 22 v0 rfl rfl) h0
  clear hA0 hval0
  simp only [List.append_nil] at hW'
  refine (walk a0 w0 W).mono fun e W' ⟨he, hg⟩ => ?_
  subst he
  exact ⟨_, rfl, _, _, _, [], [], [], hW', (trodAll_cons_mk (shut_bool Try.underlying4 _) trodAll_mk0), (trodAll_cons_mk (shut_int Try.underlying22 w0) trodAll_mk0), rfl, hg.frame _, fun h => by cases h⟩

theorem over : Rows.codePairsRow.holds Try.pinned (OpenSpec.ofChange Rows.codePairsSpec) :=
  OpenClaim.holds_of_wide 7 Try.f7 rfl rfl rfl rfl rfl rfl rfl ⟨rfl, rfl, rfl, rfl, rfl⟩ rfl rfl rfl rfl rfl (by kernel_rfl) Try.func7 (by kernel_rfl)
    (of_decide_eq_true (by kernel_rfl)) (by unfold Func.isWrapper; first | (rw [if_pos (by decide +kernel)]; kernel_rfl) | (rw [if_neg (by decide +kernel)]; exact ⟨rfl, rfl⟩))
    (fun os started H enc _ => lifted os started H enc)

theorem proved : Rows.CodePairsSaid :=
  over
#print axioms proved
end Go.Proofs.Ytmooalbbaiccjaa.codePairs
