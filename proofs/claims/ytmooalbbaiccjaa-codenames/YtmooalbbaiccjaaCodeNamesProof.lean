/-
  For every code and every name: a code is found by its name, a name that is found is its code's, no two have one name; no condition.
-/
import Derived.Test.YtmooalbbaiccjaaRows
import Derived.WalkKit
import Derived.ProofKit
import Derived.OpenShut
import Derived.Carry
import Derived.Test.YtmooalbbaiccjaaCodAwake
import Derived.WalkLawsBesides
import Derived.Laws.Concat
import Derived.Laws.Strings
namespace Go.Proofs.Ytmooalbbaiccjaa.codeNames
open Go.ChangeShapes Go.WideShapes Go.ChangeAt Go.RowKit
set_option linter.unusedVariables false

theorem own : ownKnob Try.prog.godebug = none := by kernel_rfl
theorem laidOut : laidOutB Try.prog = true := by kernel_rfl
set_option maxHeartbeats 4000000 in
set_option maxRecDepth 100000 in
theorem long (c : Int) (t : List UInt8) (w : World) (h : 50 < (t.length : Int)) :
    Calls Try.prog 4 #[.int .u16 c, .string ⟨t.toArray⟩] w fun e w' => e = .returned (.bool true) ∧ Below w.heap.size w w' := by
  have HB : Hid (Below w.heap.size w w) := Below.refl _ _
  have hsz : ((⟨t.toArray⟩ : ByteArray).size : Int) = (t.length : Int) := by show ((t.toArray.size : Nat) : Int) = _; simp
  go_enter Try.func4, Try.ntmps4
  go_wp2_with (first
    | (go_at_call 8; refine (B.reads_any _ _).mono ?_; rintro e w' ⟨rfl, rfl⟩)
    | (go_at_call 9; refine (B.writes_any _ _).mono ?_; rintro e w' ⟨rfl, rfl⟩)
    | (go_at_call 12; refine (B.kind_any _ _).mono ?_; rintro e w' ⟨rfl, rfl⟩)
    | (go_at_call 15; refine (B.ends_any _ _).mono ?_; rintro e w' ⟨rfl, rfl⟩)
    | (go_at_call 13; refine (B.name_any _ _).mono ?_; rintro e w' ⟨rfl, hb⟩; replace HB := B.stp HB hb; clear hb)
    | (go_at_call 11; refine (B.awake_any _).mono ?_; rintro e w' ⟨rfl, hb⟩; replace HB := B.stp HB hb; clear hb)
    | (go_at_call 20; refine (B.find_any _ (by unfold maxLen; omega) _).mono ?_; rintro e w' ⟨rfl, hb⟩; replace HB := B.stp HB hb; clear hb)
    | go_in)
  go_ret
  exact ⟨rfl, HB.out⟩

set_option maxHeartbeats 4000000 in
set_option maxRecDepth 100000 in
theorem core (c : Int) (t n : List UInt8) (w : World) (h : t.length ≤ 50) (hn : M.name c = n) (hl : n.length ≤ 50) (d : Int)
    (h1 : (M.find n = some c ∧ (n == []) = false) ∨ (M.find n = none ∧ n = []))
    (h2 : (M.find t = some d ∧ M.name d = t ∧ (t == []) = false) ∨ M.find t = none) :
    Calls Try.prog 4 #[.int .u16 c, .string ⟨t.toArray⟩] w fun e w' => e = .returned (.bool true) ∧ Below w.heap.size w w' := by
  have HB : Hid (Below w.heap.size w w) := Below.refl _ _
  have hsz : ((⟨t.toArray⟩ : ByteArray).size : Int) = (t.length : Int) := by show ((t.toArray.size : Nat) : Int) = _; simp
  have hd : decide ((50 : Int) < (t.length : Int)) = false := decide_eq_false (by omega)
  rcases h1 with ⟨h3, h4⟩ | ⟨h3, rfl⟩ <;> rcases h2 with ⟨h5, h6, h7⟩ | h5
  all_goals
    go_enter Try.func4, Try.ntmps4
    go_wp2_with (first
      | (go_at_call 8; refine (B.reads_any _ _).mono ?_; rintro e w' ⟨rfl, rfl⟩)
      | (go_at_call 9; refine (B.writes_any _ _).mono ?_; rintro e w' ⟨rfl, rfl⟩)
      | (go_at_call 12; refine (B.kind_any _ _).mono ?_; rintro e w' ⟨rfl, rfl⟩)
      | (go_at_call 15; refine (B.ends_any _ _).mono ?_; rintro e w' ⟨rfl, rfl⟩)
      | (go_at_call 13; refine (B.name_any _ _).mono ?_; rintro e w' ⟨rfl, hb⟩; replace HB := B.stp HB hb; clear hb)
      | (go_at_call 11; refine (B.awake_any _).mono ?_; rintro e w' ⟨rfl, hb⟩; replace HB := B.stp HB hb; clear hb)
      | (go_at_call 20; refine (B.find_any _ (by unfold maxLen; omega) _).mono ?_; rintro e w' ⟨rfl, hb⟩; replace HB := B.stp HB hb; clear hb)
      | go_in)
    go_ret
    exact ⟨rfl, HB.out⟩

set_option maxHeartbeats 3200000 in
set_option maxRecDepth 1000000 in
theorem walk (n0 : Int) (wf0 : (Lit.int .u16 n0).wf = true) (s1 : ByteArray) (hs1 : s1.size ≤ maxLen) (w : World) :
    Calls Try.prog 4 #[.int .u16 n0, .string s1] w fun e w' => e = .returned (.bool true) ∧ Below w.heap.size w w' := by
  obtain ⟨t, rfl⟩ : ∃ t : List UInt8, s1 = ⟨t.toArray⟩ := ⟨s1.data.toList, by simp⟩
  by_cases hl : t.length ≤ 50
  · have e2 : ∃ d, (M.find t = some d ∧ M.name d = t ∧ (t == []) = false) ∨ M.find t = none := by
      cases hf : M.find t with
      | none => exact ⟨0, .inr rfl⟩
      | some d =>
        have hm := M.find_mem hf
        refine ⟨d, .inl ⟨rfl, M.mem_name hm, ?_⟩⟩
        simpa using M.keys_some _ hm
    obtain ⟨d, e2⟩ := e2
    refine core n0 t _ w hl rfl ?_ d ?_ e2
    · by_cases hc : M.name n0 = []
      · rw [hc]; simp
      · have := M.keys_short _ (M.name_mem hc)
        simp only at this
        omega
    · by_cases hc : M.name n0 = []
      · exact .inr ⟨by rw [hc]; exact M.find_nil, hc⟩
      · exact .inl ⟨M.mem_find (M.name_mem hc), by simpa using hc⟩
  · exact long n0 t w (by omega)

set_option maxRecDepth 100000 in
theorem lifted (os : Os) (started : os.Started) (H : Type) (enc : TypeId × Value → H) :
    ReturnsInHanded {} Try.checked os 4 .any (Rows.codeNamesSpec.pre6 enc Try.prog Try.f4 Rows.codeNamesRow.domain false) (Rows.codeNamesSpec.post enc Try.prog Try.f4 false true false false) := by
  refine returnsInHanded_of_change (C := Try.checked) own started (by kernel_rfl) Try.func4
    (ChangeSpec.witness6 (enc := enc) (C := Try.checked) false ⟨#[], #[.int .u16 0, .string ByteArray.empty], []⟩ 8 (by kernel_rfl) (by kernel_rfl) (by kernel_rfl) (by kernel_rfl)) ?_
  intro W base args ds gs before hval0 hW hcnd _
  have hval : ∀ (j : Nat) t v, Try.f4.params[j]? = some t → args[j]? = some v → Value.okWide Try.prog W .any base t v := hval0
  have hW' := hW
  obtain ⟨p, q, hA0, hV, rfl, hfz, hnd⟩ := hW
  have hA : DataW.TrodAll enc Try.prog W 0 (fun _ => true) true Try.f4.params.toList args.toList ds p := hA0
  rw [Try.params4] at hA hval
  obtain ⟨v0, vs0, d0, ds0, p0, q0, hargs, rfl, rfl, h0, r0⟩ := trodAll_cons hA
  obtain ⟨v1, vs1, d1, ds1, p1, q1, rfl, rfl, rfl, h1, r1⟩ := trodAll_cons r0
  obtain ⟨rfl, rfl, rfl⟩ := trodAll_nil r1
  obtain rfl : args = #[v0, v1] := by cases args; simp_all
  obtain ⟨rfl, rfl⟩ := trodVars_none hV
  obtain ⟨n0, rfl, hd0, hp0, wf0⟩ := open_int Try.underlying22 (hval 0 22 v0 rfl rfl) h0
  obtain ⟨s1, rfl, hd1, hp1, hs1⟩ := Go.ChangeMaps.open_string Try.underlying9 (hval 1 9 v1 rfl rfl) h1
  clear hA0 hval0
  simp only [List.append_nil] at hW'
  have hlt0 : ∀ x ∈ p0, x.block < W.heap.size := fun x hx => by simpa using hW'.lt x (by simp [hx])
  have hlt1 : ∀ x ∈ p1, x.block < W.heap.size := fun x hx => by simpa using hW'.lt x (by simp [hx])
  refine (walk n0 wf0 s1 hs1 W ).mono fun e W' ⟨he, hg⟩ => ?_
  subst he
  exact ⟨_, rfl, _, _, _, [], (p0 ++ (p1 ++ [])), [], hW', (trodAll_cons_mk (shut_bool Try.underlying4 _) trodAll_mk0), (trodAll_cons_mk (Below.trod laidOut (by kernel_rfl) (of_decide_eq_true (by kernel_rfl)) h0 hg hlt0) (trodAll_cons_mk (Below.trod laidOut (by kernel_rfl) (of_decide_eq_true (by kernel_rfl)) h1 hg hlt1) trodAll_mk0)), rfl, hg.frame _, fun h => by cases h⟩

theorem over : Rows.codeNamesRow.holds Try.pinned (OpenSpec.ofChange Rows.codeNamesSpec) :=
  OpenClaim.holds_of_wide 4 Try.f4 rfl rfl rfl rfl rfl rfl rfl ⟨rfl, rfl, rfl, rfl, rfl⟩ rfl rfl rfl rfl rfl (by kernel_rfl) Try.func4 (by kernel_rfl)
    (of_decide_eq_true (by kernel_rfl)) (by unfold Func.isWrapper; first | (rw [if_pos (by decide +kernel)]; kernel_rfl) | (rw [if_neg (by decide +kernel)]; exact ⟨rfl, rfl⟩))
    (fun os started H enc _ => lifted os started H enc)

theorem proved : Rows.CodeNamesSaid :=
  over
#print axioms proved
end Go.Proofs.Ytmooalbbaiccjaa.codeNames
