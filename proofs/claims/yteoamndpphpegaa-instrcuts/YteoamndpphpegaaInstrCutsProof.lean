/-
  For every program and every number, the bytes of the program up to that number are its first instructions where they are whole, and are refused else; no condition.
-/
import Derived.Test.YteoamndpphpegaaRows
import Derived.WalkKit
import Derived.ProofKit
import Derived.OpenShut
import Derived.Carry
import Derived.Test.YteoamndpphpegaaInsLen
namespace Go.Proofs.Yteoamndpphpegaa.instrCuts
open Go.ChangeShapes Go.WideShapes Go.ChangeAt Go.RowKit
set_option linter.unusedVariables false

theorem own : ownKnob Try.prog.godebug = none := by kernel_rfl
theorem laidOut : laidOutB Try.prog = true := by kernel_rfl
set_option maxHeartbeats 1600000 in
set_option maxRecDepth 1000000 in
theorem skip_ (a : Option Addr) (nl cap : Nat) (n : Int) (w : World) (hb : nl ≤ 9223372036854775807)
    (h : nl = 0 ∨ 200 < nl ∨ n < 0 ∨ 8 * (nl : Int) < n) :
    Calls Try.prog 7 #[.slice a nl cap, .int .i64 n] w fun e w' => e = .returned (.bool true) ∧ Below w.heap.size w w' := by
  have c : ((nl : Int) == 0) = true ∨ (((nl : Int) == 0) = false ∧ (decide (200 < (nl : Int)) = true ∨ (decide (200 < (nl : Int)) = false ∧ (decide (n < 0) = true ∨ (decide (n < 0) = false ∧ decide (8 * (nl : Int) < n) = true ∧ (nl : Int) ≤ 200))))) := by
    simp only [beq_iff_eq, beq_eq_false_iff_ne, decide_eq_true_eq, decide_eq_false_iff_not, ne_eq]; omega
  clear h
  rcases c with c1 | ⟨c1, c2 | ⟨c2, c3 | ⟨c3, c4, c5⟩⟩⟩
  all_goals
    go_enter Try.func7, Try.ntmps7
    go_wp2_with fail
    refine (B.awake_any _).mono ?_
    rintro e w1 ⟨rfl, hB1⟩
    go_wp2_with fail
    refine (B.awake_any _).mono ?_
    rintro e w2 ⟨rfl, hB2⟩
    go_wp2
    go_ret
    exact ⟨rfl, hB1.trans (hB2.mono hB1.size)⟩

theorem str_take (ns : List Int) (m : Nat) : (M.str ns).extract 0 m = M.str (ns.take m) := by
  apply M.bytes_ext
  rw [M.str_list, ByteArray.data_extract]
  simp [M.str_list, List.map_take]
theorem lies_take {w : World} {a : Option Addr} {l : List M.I} (h : B.Lies w a l) (k : Nat) : B.Lies w a (l.take k) := by
  rcases h with h | ⟨b, o, e, hb, h⟩
  · left; rw [h]; simp
  · right
    refine ⟨b, o, e, hb, fun j hj => ?_⟩
    have hj' : j < l.length := by simp at hj; omega
    rw [List.getElem_take]
    exact h j hj'

set_option maxHeartbeats 1600000 in
set_option maxRecDepth 1000000 in
theorem main_ (b o nl cap m : Nat) (l : List M.I) (w : World) (hn : l.length = nl) (hc : nl ≤ cap) (hcm : cap ≤ maxLen) (h0 : 0 < nl) (h1 : nl ≤ 200) (hm : m ≤ 8 * nl) (hl : B.Lies w (some ⟨b, o, none⟩) l) (ok : ∀ i ∈ l, M.okI i) :
    Calls Try.prog 7 #[.slice (some ⟨b, o, none⟩) nl cap, .int .i64 (m : Int)] w fun e w' => e = .returned (.bool true) ∧ Below w.heap.size w w' := by
  unfold maxLen at hcm
  have c1 : ((nl : Int) == 0) = false := beq_eq_false_iff_ne.2 (by omega)
  have c2 : decide (200 < (nl : Int)) = false := by simp; omega
  have c3 : decide ((m : Int) < 0) = false := by simp
  have c4 : decide (8 * (nl : Int) < (m : Int)) = false := by simp; omega
  obtain ⟨T, hT⟩ : ∃ T, M.str (M.pr l) = T := ⟨_, rfl⟩
  have hTs : T.size = 8 * nl := by rw [← hT, M.str_size, M.pr_len, hn]
  have hTe : T.extract 0 m = M.str ((M.pr l).take m) := by rw [← hT, str_take]
  have hTz : (T.extract 0 m).size = m := by rw [ByteArray.size_extract]; omega
  have HH : Hid (l.length = nl ∧ B.Lies w (some ⟨b, o, none⟩) l ∧ (∀ i ∈ l, M.okI i) ∧ M.str (M.pr l) = T) := ⟨hn, hl, ok, hT⟩
  have hsl : ∀ W : World, (Instr.slice 9 (.string T) none (some (.int .i64 (m : Int))) none).run Try.prog W = .ok (.string (T.extract 0 m)) W := fun W => by
    rw [Go.run_slice_string_to_if W 9 T .i64 (m : Int) Try.underlying9, if_pos (by omega)]; rfl
  clear hn hl ok hT
  by_cases hbad : m = 0 ∨ m % 8 ≠ 0
  · have rd : ∀ w : World, Calls Try.prog 9 #[.string (T.extract 0 m)] w fun e w' => e = .returned (.tuple #[.slice none 0 0, .int .i64 4]) ∧ w' = w := fun w => by
      rcases hbad with h | h
      · exact B.read_empty _ w (by rw [hTz, h])
      · by_cases hz : m = 0
        · exact B.read_empty _ w (by rw [hTz, hz])
        · exact B.read_broken _ w (by rw [hTz]; omega) (by rw [hTz]; exact h) (by rw [hTz]; omega)
    have HR : Hid (∀ w : World, Calls Try.prog 9 #[.string (T.extract 0 m)] w fun e w' => e = .returned (.tuple #[.slice none 0 0, .int .i64 4]) ∧ w' = w) := rd
    have d : ((m : Int) == 0) = true ∨ (((m : Int) == 0) = false ∧ ((m : Int) % 8 != 0) = true) := by
      simp only [beq_iff_eq, beq_eq_false_iff_ne, bne_iff_ne, ne_eq]; omega
    clear rd hbad hTz hTe hTs
    rcases d with d1 | ⟨d1, d2⟩
    all_goals
      go_enter Try.func7, Try.ntmps7
      go_wp2_with fail
      refine (B.awake_any _).mono ?_
      rintro e w1 ⟨rfl, hB1⟩
      go_wp2_with fail
      refine (B.rprint_len _ l nl cap _ HH.out.1 (HH.out.2.1.below hB1) HH.out.2.2.1 h0 (by omega) T HH.out.2.2.2).mono ?_
      rintro e w2 ⟨rfl, hB2⟩
      have hbw : Below w.heap.size w w2 := hB1.trans (hB2.mono hB1.size)
      clear hB1 hB2
      go_wp2_with fail
      refine (HR.out _).mono ?_
      rintro e w3 ⟨rfl, rfl⟩
      go_wp2
      go_ret
      exact ⟨rfl, hbw⟩
  · obtain ⟨k, hk⟩ : ∃ k, m = 8 * k := ⟨m / 8, by omega⟩
    have hk0 : 0 < k := by omega
    have hk1 : k ≤ nl := by omega
    have d1 : ((m : Int) == 0) = false := beq_eq_false_iff_ne.2 (by omega)
    have d2 : ((m : Int) % 8 != 0) = false := by rw [bne_eq_false_iff_eq]; omega
    have d3 : (m : Int) / 8 = (k : Int) := by omega
    have HR : Hid (M.rdl (T.extract 0 m) k = l.take k ∧ (T.extract 0 m).size = 8 * k ∧ (l.take k).length = k) := by
      refine ⟨?_, by rw [hTz, hk], ?_⟩
      · rw [hTe]; exact M.rdl_pr l k m HH.out.2.2.1 (by have := HH.out.1; omega) (by omega)
      · rw [List.length_take]; have := HH.out.1; omega
    have i1 : (k : Int) ≤ (cap : Int) := by omega
    clear hbad hTz hTe hTs hk
    go_enter Try.func7, Try.ntmps7
    go_wp2_with fail
    refine (B.awake_any _).mono ?_
    rintro e w1 ⟨rfl, hB1⟩
    go_wp2_with fail
    refine (B.rprint_len _ l nl cap _ HH.out.1 (HH.out.2.1.below hB1) HH.out.2.2.1 h0 (by omega) T HH.out.2.2.2).mono ?_
    rintro e w2 ⟨rfl, hB2⟩
    have hbw : Below w.heap.size w w2 := hB1.trans (hB2.mono hB1.size)
    clear hB1 hB2
    go_wp2_with fail
    refine (B.read_len _ k _ HR.out.2.1 hk0 (by omega) _ HR.out.1).mono ?_
    rintro e w3 ⟨g, cap', rfl, hL3, hB3⟩
    have hbw3 : Below w.heap.size w w3 := hbw.trans (hB3.mono hbw.size)
    have HL : Hid (B.Lies w3 (some ⟨g, 0, none⟩) (l.take k) ∧ B.Lies w3 (some ⟨b, o, none⟩) (l.take k)) := ⟨hL3, lies_take (HH.out.2.1.below hbw3) k⟩
    clear hbw hB3 hL3
    go_wp2_with fail
    refine (B.rsame_len _ _ (l.take k) (l.take k) k k cap' cap _ HR.out.2.2 HR.out.2.2 HL.out.1 HL.out.2 (by omega) (by omega) true (by simp)).mono ?_
    rintro e w4 ⟨rfl, q, rfl⟩
    go_wp2
    go_ret
    exact ⟨rfl, B.below_drawn hbw3 q⟩

set_option maxHeartbeats 3200000 in
set_option maxRecDepth 1000000 in
theorem walk (a0 : Option Addr) (cap0 : Nat) (l0 : List M.I) (hn0 : l0.length ≤ cap0) (hm0 : cap0 ≤ maxLen) (ok0 : ∀ i ∈ l0, M.okI i) (n1 : Int) (wf1 : (Lit.int .i64 n1).wf = true) (w : World) (hl0 : B.Lies w a0 l0) :
    Calls Try.prog 7 #[.slice a0 l0.length cap0, .int .i64 n1] w fun e w' => e = .returned (.bool true) ∧ Below w.heap.size w w' := by
  have hm : l0.length ≤ 9223372036854775807 := by have := hm0; unfold maxLen at this; omega
  by_cases h : l0.length = 0 ∨ 200 < l0.length ∨ n1 < 0 ∨ 8 * (l0.length : Int) < n1
  · exact skip_ a0 l0.length cap0 n1 w hm h
  · obtain ⟨m, rfl⟩ := Int.eq_ofNat_of_zero_le (show 0 ≤ n1 by omega)
    rcases hl0 with hl | ⟨b, o, rfl, hb, hl⟩
    · exfalso; rw [hl] at h; simp at h
    · exact main_ b o l0.length cap0 m l0 w rfl hn0 hm0 (by omega) (by omega) (by omega) (.inr ⟨b, o, rfl, hb, hl⟩) ok0

set_option maxRecDepth 100000 in
theorem lifted (os : Os) (started : os.Started) (H : Type) (enc : TypeId × Value → H) :
    ReturnsInHanded {} Try.checked os 7 .any (Rows.instrCutsSpec.pre6 enc Try.prog Try.f7 Rows.instrCutsRow.domain false) (Rows.instrCutsSpec.post enc Try.prog Try.f7 false true false false) := by
  refine returnsInHanded_of_change (C := Try.checked) own started (by kernel_rfl) Try.func7
    (ChangeSpec.witness6 (enc := enc) (C := Try.checked) false ⟨#[], #[.slice none 0 0, .int .i64 0], []⟩ 8 (by kernel_rfl) (by kernel_rfl) (by kernel_rfl) (by kernel_rfl)) ?_
  intro W base args ds gs before hval0 hW hcnd _
  have hval : ∀ (j : Nat) t v, Try.f7.params[j]? = some t → args[j]? = some v → Value.okWide Try.prog W .any base t v := hval0
  have hW' := hW
  obtain ⟨p, q, hA0, hV, rfl, hfz, hnd⟩ := hW
  have hA : DataW.TrodAll enc Try.prog W 0 (fun _ => true) true Try.f7.params.toList args.toList ds p := hA0
  rw [Try.params7] at hA hval
  obtain ⟨v0, vs0, d0, ds0, p0, q0, hargs, rfl, rfl, h0, r0⟩ := trodAll_cons hA
  obtain ⟨v1, vs1, d1, ds1, p1, q1, rfl, rfl, rfl, h1, r1⟩ := trodAll_cons r0
  obtain ⟨rfl, rfl, rfl⟩ := trodAll_nil r1
  obtain rfl : args = #[v0, v1] := by cases args; simp_all
  obtain ⟨rfl, rfl⟩ := trodVars_none hV
  obtain ⟨a0, cap0, l0, rfl, hn0, hm0, hl0, ok0, _⟩ := B.arg_list (hval 0 23 v0 rfl rfl) h0
  obtain ⟨n1, rfl, hd1, hp1, wf1⟩ := open_int Try.underlying3 (hval 1 3 v1 rfl rfl) h1
  clear hA0 hval0
  simp only [List.append_nil] at hW'
  have hlt0 : ∀ x ∈ p0, x.block < W.heap.size := fun x hx => by simpa using hW'.lt x (by simp [hx])
  have hlt1 : ∀ x ∈ p1, x.block < W.heap.size := fun x hx => by simpa using hW'.lt x (by simp [hx])
  refine (walk a0 cap0 l0 hn0 hm0 ok0 n1 wf1 W hl0).mono fun e W' ⟨he, hg⟩ => ?_
  subst he
  exact ⟨_, rfl, _, _, _, [], (p0 ++ (p1 ++ [])), [], hW', (trodAll_cons_mk (shut_bool Try.underlying4 _) trodAll_mk0), (trodAll_cons_mk (Below.trod laidOut (by kernel_rfl) (of_decide_eq_true (by kernel_rfl)) h0 hg hlt0) (trodAll_cons_mk (Below.trod laidOut (by kernel_rfl) (of_decide_eq_true (by kernel_rfl)) h1 hg hlt1) trodAll_mk0)), rfl, hg.frame _, fun h => by cases h⟩

theorem over : Rows.instrCutsRow.holds Try.pinned (OpenSpec.ofChange Rows.instrCutsSpec) :=
  OpenClaim.holds_of_wide 7 Try.f7 rfl rfl rfl rfl rfl rfl rfl ⟨rfl, rfl, rfl, rfl, rfl⟩ rfl rfl rfl rfl rfl (by kernel_rfl) Try.func7 (by kernel_rfl)
    (of_decide_eq_true (by kernel_rfl)) (by unfold Func.isWrapper; first | (rw [if_pos (by decide +kernel)]; kernel_rfl) | (rw [if_neg (by decide +kernel)]; exact ⟨rfl, rfl⟩))
    (fun os started H enc _ => lifted os started H enc)

theorem proved : Rows.InstrCutsSaid :=
  over
#print axioms proved
end Go.Proofs.Yteoamndpphpegaa.instrCuts
