/-
  All codes are told, rising, each once, as the document lists them; every code is one of them just if it has a kind; no condition.
-/
import Derived.Test.YtmooalbbaiccjaaRows
import Derived.WalkKit
import Derived.ProofKit
import Derived.OpenShut
import Derived.Test.YtmooalbbaiccjaaCodAwake
import Derived.WalkLawsBesides
namespace Go.Proofs.Ytmooalbbaiccjaa.codeAll
open Go.ChangeShapes Go.WideShapes Go.ChangeAt Go.RowKit
set_option linter.unusedVariables false

theorem own : ownKnob Try.prog.godebug = none := by kernel_rfl

def fd (c : Int) : Nat → Bool
  | 0 => false
  | k + 1 => fd c k || (M.cd k == c)
theorem fd_iff (c : Int) : ∀ k, fd c k = true ↔ ∃ j, j < k ∧ M.cd j = c
  | 0 => by simp [fd]
  | k + 1 => by
    simp only [fd, Bool.or_eq_true, beq_iff_eq, fd_iff c k]
    constructor
    · rintro (⟨j, hj, e⟩ | e)
      · exact ⟨j, by omega, e⟩
      · exact ⟨k, by omega, e⟩
    · rintro ⟨j, hj, e⟩
      by_cases h : j = k
      · exact .inr (h ▸ e)
      · exact .inl ⟨j, by omega, e⟩
theorem kind_some : ∀ c ∈ M.codes, M.kind c ≠ 0 := by decide
theorem fd_kind (c : Int) : fd c 41 = (M.kind c != 0) := by
  rw [Bool.eq_iff_iff, fd_iff]
  simp only [bne_iff_ne, ne_eq]
  constructor
  · rintro ⟨j, hj, e⟩
    refine kind_some c ?_
    rw [← e]
    have := M.cd_get ⟨j, hj⟩
    exact List.mem_of_getElem? this
  · intro h
    refine Classical.byContradiction fun hn => h (M.kind_none (M.not_code fun j hj e => hn ⟨j, hj, e⟩))
theorem rising : ∀ j : Fin 40, decide (M.cd (j.val + 1) ≤ M.cd j.val) = false := by decide
theorem codes_at : ∀ j : Fin 41, M.codes.toArray[j.val]! = M.cd j.val := by decide
set_option maxHeartbeats 1600000 in
set_option maxRecDepth 100000 in
theorem walk (a0 : Int) (w0 : (Lit.int .u16 a0).wf = true) (w : World) :
    Calls Try.prog 5 #[.int .u16 a0] w fun e w' => e = .returned (.bool true) ∧ Below w.heap.size w w' := by
  clear w0
  go_enter Try.func5, Try.ntmps5
  go_wp2_with fail
  refine (B.all_any _).mono ?_
  rintro e w1 ⟨g, cap, rfl, hr⟩
  have HR := B.hid hr
  clear hr
  go_wp2_with fail
  refine (B.rall_any _).mono ?_
  rintro e W ⟨rfl, hW⟩
  have HB : Hid (Below w.heap.size w W) := by rw [hW]; exact HR.out.below.alloc HR.out.below.size _
  have HC : Hid (∀ j : Nat, j < 41 → W.cell? ⟨g, j, none⟩ = some (.int .u16 (M.cd j))) := fun j hj => by
    have h1 := (HR.out.holds j hj).1
    rw [Nat.zero_add, codes_at ⟨j, hj⟩] at h1
    rw [hW, World.cell?_alloc_some _ _ _ (by rw [h1]; rfl), h1]
  have HD : Hid (∀ j : Nat, j < 41 → W.cell? ⟨w1.heap.size, j, none⟩ = some (.int .u16 (M.cd j))) := fun j hj => by
    rw [hW, B.cell_lit, List.getElem?_map, M.cd_get ⟨j, hj⟩]; rfl
  clear hW HR
  generalize w1.heap.size = b at HD ⊢
  go_wp2
  go_loop [5, 12] (fun f i => ∃ k : Nat, k ≤ 41 ∧ f = .bool (fd a0 k) ∧ i = .int .i64 (k : Int)) (fun _ i => (41 - intOf i).toNat)
  case atStart => exact ⟨0, by omega, rfl, rfl⟩
  case round =>
    obtain ⟨k, hk, rfl, rfl⟩ := hrel
    by_cases h41 : k < 41
    · have hck := HC.out k h41
      have hdk := HD.out k h41
      have hkz : (k : Int) < 41 := by omega
      have hkd : decide ((41 : Int) ≤ (k : Int)) = false := decide_eq_false (by omega)
      have HF : Hid (fd a0 (k + 1) = (fd a0 k || (M.cd k == a0))) := rfl
      cases k with
      | zero =>
        go_wp2
        all_goals go_round
        case rel => exact ⟨1, by omega, rfl, rfl⟩
        case measure => simp [intOf]
      | succ j =>
        have hpk := HC.out j (by omega)
        have hrs := rising ⟨j, by omega⟩
        simp only at hrs
        generalize fd a0 (j + 1) = f at HF ⊢
        cases f
        all_goals
          go_wp2
          all_goals go_round
          case rel => exact ⟨j + 1 + 1, by omega, by rw [HF.out]; rfl, by go_num⟩
          case measure => simp [intOf]; omega
    · obtain rfl : k = 41 := by omega
      rw [fd_kind]
      go_wp2_with (first
        | (go_at_call 12; refine (B.kind_any _ _).mono ?_; rintro e w' ⟨rfl, rfl⟩)
        | (go_at_call 11; refine (B.awake_any _).mono ?_; rintro e w' ⟨rfl, hb⟩; replace HB := B.stp HB hb; clear hb)
        | go_in)
      go_ret
      exact ⟨rfl, HB.out⟩

set_option maxRecDepth 100000 in
theorem lifted (os : Os) (started : os.Started) (H : Type) (enc : TypeId × Value → H) :
    ReturnsInHanded {} Try.checked os 5 .any (Rows.codeAllSpec.pre6 enc Try.prog Try.f5 Rows.codeAllRow.domain false) (Rows.codeAllSpec.post enc Try.prog Try.f5 false true false false) := by
  refine returnsInHanded_of_change (C := Try.checked) own started (by kernel_rfl) Try.func5
    (ChangeSpec.witness6 (enc := enc) (C := Try.checked) false ⟨#[], #[.int .u16 0], []⟩ 8 (by kernel_rfl) (by kernel_rfl) (by kernel_rfl) (by kernel_rfl)) ?_
  intro W base args ds gs before hval0 hW hcnd _
  have hval : ∀ (j : Nat) t v, Try.f5.params[j]? = some t → args[j]? = some v → Value.okWide Try.prog W .any base t v := hval0
  have hW' := hW
  obtain ⟨p, q, hA0, hV, rfl, hfz, hnd⟩ := hW
  have hA : DataW.TrodAll enc Try.prog W 0 (fun _ => true) true Try.f5.params.toList args.toList ds p := hA0
  rw [Try.params5] at hA hval
  obtain ⟨v0, vs0, d0, ds0, p0, q0, hargs, rfl, rfl, h0, r0⟩ := trodAll_cons hA
  obtain ⟨rfl, rfl, rfl⟩ := trodAll_nil r0
  obtain rfl : args = #[v0] := by cases args; simp_all
  obtain ⟨rfl, rfl⟩ := trodVars_none hV
  obtain ⟨a0, rfl, rfl, rfl, w0⟩ := open_int Try.underlying22 (hval 0 22 v0 rfl rfl) h0
  clear hA0 hval0
  simp only [List.append_nil] at hW'
  refine (walk a0 w0 W).mono fun e W' ⟨he, hg⟩ => ?_
  subst he
  exact ⟨_, rfl, _, _, _, [], [], [], hW', (trodAll_cons_mk (shut_bool Try.underlying4 _) trodAll_mk0), (trodAll_cons_mk (shut_int Try.underlying22 w0) trodAll_mk0), rfl, hg.frame _, fun h => by cases h⟩

theorem over : Rows.codeAllRow.holds Try.pinned (OpenSpec.ofChange Rows.codeAllSpec) :=
  OpenClaim.holds_of_wide 5 Try.f5 rfl rfl rfl rfl rfl rfl rfl ⟨rfl, rfl, rfl, rfl, rfl⟩ rfl rfl rfl rfl rfl (by kernel_rfl) Try.func5 (by kernel_rfl)
    (of_decide_eq_true (by kernel_rfl)) (by unfold Func.isWrapper; first | (rw [if_pos (by decide +kernel)]; kernel_rfl) | (rw [if_neg (by decide +kernel)]; exact ⟨rfl, rfl⟩))
    (fun os started H enc _ => lifted os started H enc)

theorem proved : Rows.CodeAllSaid :=
  over
#print axioms proved
end Go.Proofs.Ytmooalbbaiccjaa.codeAll
