/-
  For every number of 32 bits: it is written as the document says, and read by a line that has it; with a nought ahead it is none's.
-/
import Derived.Test.YtapjjpjiggjlfaaDoorRows
import Derived.WalkKit
import Derived.ProofKit
import Derived.OpenShut
import Derived.Carry
import Derived.Test.YtapjjpjiggjlfaaDoorTie
import Derived.Test.YtapjjpjiggjlfaaDoorCards
import Derived.SevenTiedAt
import Derived.Test.YtapjjpjiggjlfaaDoorAsmAwake
namespace Go.Proofs.YtapjjpjiggjlfaaDoor.asmNumber
open Go.ChangeShapes Go.WideShapes Go.ChangeAt Go.RowKit
set_option linter.unusedVariables false

theorem own : ownKnob Tryd.prog.godebug = none := by kernel_rfl
theorem laidOut : laidOutB Tryd.prog = true := by kernel_rfl
theorem ret_num {u : Nat} (hu : u < 4294967296) : M.parse ([114, 101, 116, 32] ++ M.num u) = some (6, 0, 0, (u : Int)) := by
  refine M.line_parse ⟨by simp, by simp, by simp, by simp only; omega⟩ ?_
  have h1 : M.name 6 = [114, 101, 116] := by decide +kernel
  have h2 : M.hasK 6 = true := by decide +kernel
  have h3 : M.jif 6 = false := by decide +kernel
  unfold M.line
  simp [h1, h2, h3]
theorem ret_nought {u : Nat} (hu : u < 4294967296) : M.parse ([114, 101, 116, 32, 48] ++ M.num u) = none := by
  cases e : M.parse ([114, 101, 116, 32, 48] ++ M.num u) with
  | none => rfl
  | some i =>
    exfalso
    obtain ⟨ok, hl⟩ := M.parse_line e
    have hw := M.line_words ok hl
    have h1 : [114, 101, 116, 32, 48] ++ M.num u = [114, 101, 116] ++ 32 :: (48 :: M.num u) := rfl
    rw [h1, M.words_more (by decide), M.words_one ?_] at hw
    · have hk := ok.2.2.2
      cases hK : M.hasK i.1 <;> cases hJ : M.jif i.1 <;> simp [hK, hJ] at hw
      exact M.num_nought hu (by omega) hw.2.symm
    · intro b hb
      rcases List.mem_cons.1 hb with rfl | hb
      · decide
      · exact M.num_no hu (by decide) b hb

set_option maxHeartbeats 3200000 in
set_option maxRecDepth 1000000 in
theorem walk (n0 : Int) (wf0 : (Lit.int .u32 n0).wf = true) (w : World) (hN : B.Nm w) :
    Calls Tryd.prog 7 #[.int .u32 n0] w fun e w' => e = .returned (.bool true) ∧ Below w.heap.size w w' := by
  have hb0 := bounds_u32 wf0
  obtain ⟨u, rfl⟩ : ∃ u : Nat, n0 = u := ⟨n0.toNat, by omega⟩
  have hu : u < 4294967296 := by omega
  obtain ⟨S, hS⟩ : ∃ S : ByteArray, S = ⟨(M.num u).toArray⟩ := ⟨_, rfl⟩
  have hSs : S.size ≤ 20 := by rw [hS, B.bar]; exact M.num_len _
  have cN : ∀ w, B.Nm w → Calls Tryd.prog 19 #[.int .u32 u] w fun e w' => e = .returned (.string S) ∧ Below w.heap.size w w' := by rw [hS]; exact fun w hw => B.number_any u hu w hw
  have cR : ∀ w, Calls Tryd.prog 20 #[.int .u32 u] w fun e w' => e = .returned (.string S) ∧ Below w.heap.size w w' := by rw [hS]; exact fun w => B.rnumber_any u hu w
  have e1 : ((⟨#[114, 101, 116, 32]⟩ : ByteArray) ++ S).data.toList = [114, 101, 116, 32] ++ M.num u := by rw [hS]; simp
  have e2 : ((⟨#[114, 101, 116, 32, 48]⟩ : ByteArray) ++ S).data.toList = [114, 101, 116, 32, 48] ++ M.num u := by rw [hS]; simp
  have cP : ∀ w, B.Nm w → Calls Tryd.prog 12 #[.string ((⟨#[114, 101, 116, 32]⟩ : ByteArray) ++ S)] w fun e w' => e = .returned (.tuple #[.agg #[.int .u16 6, .int .u8 0, .int .u8 0, .int .u32 u], .int .i64 0]) ∧ Below w.heap.size w w' := by
    intro w hw
    have := B.parse_any ((⟨#[114, 101, 116, 32]⟩ : ByteArray) ++ S) (by rw [ByteArray.size_append]; show 4 + _ ≤ _; omega) w hw
    rw [e1, ret_num hu] at this
    exact this
  have cQ : ∀ w, B.Nm w → Calls Tryd.prog 12 #[.string ((⟨#[114, 101, 116, 32, 48]⟩ : ByteArray) ++ S)] w fun e w' => e = .returned (.tuple #[.agg #[.int .u16 0, .int .u8 0, .int .u8 0, .int .u32 0], .int .i64 3]) ∧ Below w.heap.size w w' := by
    intro w hw
    have := B.parse_any ((⟨#[114, 101, 116, 32, 48]⟩ : ByteArray) ++ S) (by rw [ByteArray.size_append]; show 5 + _ ≤ _; omega) w hw
    rw [e2, ret_nought hu] at this
    exact this
  have HN := Lib.hid hN
  have hg := B.guard39
  have hq := B.eql39
  clear hS e1 e2 hN wf0 hb0
  go_enter Tryd.func7, Tryd.ntmps7
  go_wp2_with fail
  refine (cN _ HN.out).mono ?_
  rintro e w1 ⟨rfl, hb⟩
  have hB := Lib.hid hb
  clear hb
  go_wp2_with fail
  refine (cP _ (HN.out.below hB.out)).mono ?_
  rintro e w2 ⟨rfl, hb⟩
  have hB := B.stp hB hb
  clear hb
  go_wp2_with fail
  refine (cQ _ (HN.out.below (hB.out.trans ((B.al _ _).mono hB.out.size)))).mono ?_
  rintro e w3 ⟨rfl, hb⟩
  have hI := (B.At.new w2 6 0 0 u).below hb
  have hB := B.al_stp hB hb
  clear hb
  go_wp2_with (first
    | (go_at_call 9; refine (B.awake_any _ (HN.out.below (hB.out.trans ((B.al _ _).mono hB.out.size)))).mono ?_; rintro e w4 ⟨rfl, hb⟩; have hI := (hI.alloc _).below hb; have hB := B.al_stp hB hb; clear hb; obtain ⟨a0, a1, a2, a3, a4⟩ := hI.cells)
    | (go_at_call 20; refine (cR _).mono ?_; rintro e w5 ⟨rfl, hb⟩; have hI := hI.below hb; have hB := B.stp hB hb; clear hb; obtain ⟨a0, a1, a2, a3, a4⟩ := hI.cells))
  go_ret
  exact ⟨rfl, hB.out⟩

set_option maxRecDepth 100000 in
theorem lifted (os : Os) (started : os.Started) (H : Type) (enc : TypeId × Value → H) :
    ReturnsInHanded {} Tryd.checked os 7 .any (fun w args => (Rows.asmNumberSpec.pre enc Tryd.prog Tryd.f7 [] false w args ∧ laidMetH Tryd.prog B.laidL w) ∧ sizedMet enc Tryd.prog Tryd.f7 (OpenSpec.ofChange Rows.asmNumberSpec) false w args)
      (Rows.asmNumberSpec.post enc Tryd.prog Tryd.f7 false true false false) := by
  refine returnsInHanded_of_change_and (C := Tryd.checked) (X := fun w _ => laidMetH Tryd.prog B.laidL w) (fun _ _ _ hh h => h.of_heap hh) own started (by kernel_rfl) Tryd.func7
    (ChangeSpec.witness_shaped (enc := enc) (C := Tryd.checked) (os := os) (X := fun w _ => laidMetH Tryd.prog B.laidL w) false (World.doorLaid Tryd.prog 400 os) #[.int .u32 0] 8 rfl (World.shaped_of_RefB (by kernel_rfl) (by kernel_rfl)) (by kernel_rfl) (by kernel_rfl) (by kernel_rfl) (B.door_met os _)) ?_
  intro W base args ds gs before hval0 hW _ _ hL _
  have hval : ∀ (j : Nat) t v, Tryd.f7.params[j]? = some t → args[j]? = some v → Value.okWide Tryd.prog W .any base t v := hval0
  have hW' := hW
  obtain ⟨p, q, hA0, hV, rfl, hfz, hnd⟩ := hW
  have hA : DataW.TrodAll enc Tryd.prog W 0 (fun _ => true) true Tryd.f7.params.toList args.toList ds p := hA0
  rw [Tryd.params7] at hA hval
  obtain ⟨v0, vs0, d0, ds0, p0, q0, hargs, rfl, rfl, h0, r0⟩ := trodAll_cons hA
  obtain ⟨rfl, rfl, rfl⟩ := trodAll_nil r0
  obtain rfl : args = #[v0] := by cases args; simp_all
  obtain ⟨rfl, rfl⟩ := trodVars_none hV
  obtain ⟨n0, rfl, hd0, hp0, wf0⟩ := open_int Tryd.underlying23 (hval 0 23 v0 rfl rfl) h0
  clear hA0 hval0
  simp only [List.append_nil] at hW'
  have hlt0 : ∀ x ∈ p0, x.block < W.heap.size := fun x hx => by simpa using hW'.lt x (by simp [hx])
  refine (walk n0 wf0 W (B.of_laid hL) ).mono fun e W' ⟨he, hg⟩ => ?_
  subst he
  exact ⟨_, rfl, _, _, _, [], (p0 ++ []), [], hW', (trodAll_cons_mk (shut_bool Tryd.underlying4 _) trodAll_mk0), (trodAll_cons_mk (Below.trod laidOut (by kernel_rfl) (of_decide_eq_true (by kernel_rfl)) h0 hg hlt0) trodAll_mk0), rfl, hg.frame _, fun h => by cases h⟩

theorem over : Rows.asmNumberRow.holds Tryd.pinned (OpenSpec.ofChange Rows.asmNumberSpec) :=
  OpenClaim.holds_of_wide 7 Tryd.f7 rfl rfl rfl rfl rfl rfl rfl ⟨rfl, rfl, rfl, rfl, rfl⟩ rfl rfl rfl rfl rfl (by kernel_rfl) Tryd.func7 (by kernel_rfl)
    (of_decide_eq_true (by kernel_rfl)) (by unfold Func.isWrapper; first | (rw [if_pos (by decide +kernel)]; kernel_rfl) | (rw [if_neg (by decide +kernel)]; exact ⟨rfl, rfl⟩))
    (fun os started H enc _ => lifted os started H enc)

theorem proved : Rows.AsmNumberCardSaid :=
  Claim7.holds_tied_plain_at .later [] [.data, .data, .data, .sentinel, .sentinel] true (true, "058f8c6c10db4b7d94f8f322adace66690a8fd2e27c19ca23c17c710e3ff2ac4") true
    over (fun _ h => by cases h) (by kernel_rfl) (fun _ h => by cases h) asmNumber_row_tie rfl ⟨rfl, rfl⟩ (by kernel_rfl) rfl
    (fun f fn hf hfn => by
      obtain rfl : f = 7 := Option.some.inj ((show Tryd.prog.funcNamed "tamis/tamislaw05.AsmNumber" = some 7 by kernel_rfl).symm.trans hf) |>.symm
      obtain rfl : fn = Tryd.f7 := (Option.some.inj (Tryd.func7.symm.trans hfn)).symm
      exact ⟨by kernel_rfl, fun j t ht => by
        rw [Tryd.params7] at ht
        have hm : t ∈ [23] := by simpa using Array.mem_of_getElem? ht
        have hall : ([23].all fun u => !Tryd.prog.wantsStandIn u) = true := by kernel_rfl
        exact (show Tryd.prog.wantsStandIn t = false by simpa using List.all_eq_true.1 hall t hm)⟩)
    (by kernel_rfl)
#print axioms proved
end Go.Proofs.YtapjjpjiggjlfaaDoor.asmNumber
