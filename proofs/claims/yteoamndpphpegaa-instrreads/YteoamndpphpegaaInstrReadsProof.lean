/-
  For every text of bytes, what is read of it, or why it is refused, is what the document says, and what was read is printed as the same bytes; no condition.
-/
import Derived.Test.YteoamndpphpegaaRows
import Derived.WalkKit
import Derived.ProofKit
import Derived.OpenShut
import Derived.Carry
import Derived.Test.YteoamndpphpegaaInsLen
namespace Go.Proofs.Yteoamndpphpegaa.instrReads
open Go.ChangeShapes Go.WideShapes Go.ChangeAt Go.RowKit
set_option linter.unusedVariables false

theorem own : ownKnob Try.prog.godebug = none := by kernel_rfl
theorem laidOut : laidOutB Try.prog = true := by kernel_rfl
set_option maxHeartbeats 1600000 in
set_option maxRecDepth 1000000 in
theorem bad (s : ByteArray) (w : World) (E : Int) (h1 : ¬ (40000 : Int) < (s.size : Int)) (hE : E = 4 ∨ E = 5)
    (HR : Hid (∀ w : World, Calls Try.prog 9 #[.string s] w fun e w' => e = .returned (.tuple #[.slice none 0 0, .int .i64 E]) ∧ w' = w))
    (HS : Hid (∀ w : World, Calls Try.prog 10 #[.string s] w fun e w' => e = .returned (.tuple #[.slice none 0 0, .int .i64 E]) ∧ w' = w)) :
    Calls Try.prog 3 #[.string s] w fun e w' => e = .returned (.bool true) ∧ Below w.heap.size w w' := by
  rcases hE with rfl | rfl
  all_goals
    go_enter Try.func3, Try.ntmps3
    go_wp2_with fail
    refine (B.awake_any _).mono ?_
    rintro e w1 ⟨rfl, hB1⟩
    go_wp2_with fail
    refine (HR.out _).mono ?_
    rintro e w2 ⟨rfl, rfl⟩
    go_wp2_with fail
    refine (HS.out _).mono ?_
    rintro e w3 ⟨rfl, rfl⟩
    go_wp2_with fail
    refine (B.rsame_len none none [] [] 0 0 0 0 _ rfl rfl (.inl rfl) (.inl rfl) (by omega) (by omega) true rfl).mono ?_
    rintro e w4 ⟨rfl, n, rfl⟩
    go_wp2_with fail
    refine (B.print_none none 0 _).mono ?_
    rintro e w5 ⟨rfl, rfl⟩
    go_wp2
    go_ret
    exact ⟨rfl, B.below_drawn hB1 _⟩

set_option maxHeartbeats 1600000 in
set_option maxRecDepth 1000000 in
theorem good (s : ByteArray) (n : Nat) (w : World) (hn : s.size = 8 * n) (h0 : 0 < n) (hm : n ≤ 4096) :
    Calls Try.prog 3 #[.string s] w fun e w' => e = .returned (.bool true) ∧ Below w.heap.size w w' := by
  have h1 : ¬ (40000 : Int) < (s.size : Int) := by omega
  have HN : Hid (s.size = 8 * n) := hn
  obtain ⟨l, hl⟩ : ∃ l, M.rdl s n = l := ⟨_, rfl⟩
  have hll : l.length = n := by rw [← hl, M.rdl_len]
  have hp : M.str (M.pr l) = s := by rw [← hl]; exact M.str_pr_rdl s n hn
  have ok : ∀ i ∈ l, M.okI i := by rw [← hl]; exact M.rdl_ok s n
  have HH : Hid (M.rdl s n = l ∧ l.length = n ∧ M.str (M.pr l) = s ∧ ∀ i ∈ l, M.okI i) := ⟨hl, hll, hp, ok⟩
  clear hn hl hll hp ok
  go_enter Try.func3, Try.ntmps3
  go_wp2_with fail
  refine (B.awake_any _).mono ?_
  rintro e w1 ⟨rfl, hB1⟩
  go_wp2_with fail
  refine (B.read_len s n _ HN.out h0 hm l HH.out.1).mono ?_
  rintro e w2 ⟨g, cap, rfl, hL2, hB2⟩
  have hbw2 : Below w.heap.size w w2 := hB1.trans (hB2.mono hB1.size)
  clear hB1 hB2
  have HL2 : Hid (B.Lies w2 (some ⟨g, 0, none⟩) l) := hL2
  clear hL2
  go_wp2_with fail
  refine (B.rread_len s n _ HN.out h0 hm l HH.out.1).mono ?_
  rintro e w3 ⟨g', cap', rfl, hL3, hB3⟩
  have hbw3 : Below w.heap.size w w3 := hbw2.trans (hB3.mono hbw2.size)
  have HL : Hid (B.Lies w3 (some ⟨g, 0, none⟩) l ∧ B.Lies w3 (some ⟨g', 0, none⟩) l) := ⟨HL2.out.below hB3, hL3⟩
  clear hB3 hbw2 HL2 hL3
  go_wp2_with fail
  refine (B.rsame_len _ _ l l n n cap cap' _ HH.out.2.1 HH.out.2.1 HL.out.1 HL.out.2 (by omega) (by omega) true (by simp)).mono ?_
  rintro e w4 ⟨rfl, q, rfl⟩
  go_wp2_with fail
  refine (B.print_len _ l n cap _ HH.out.2.1 (HL.out.1.drewN q) HH.out.2.2.2 h0 hm s HH.out.2.2.1).mono ?_
  rintro e w5 ⟨rfl, hB5⟩
  go_wp2
  go_ret
  exact ⟨rfl, (B.below_drawn hbw3 q).trans (hB5.mono hbw3.size)⟩

set_option maxHeartbeats 3200000 in
set_option maxRecDepth 1000000 in
theorem walk (s0 : ByteArray) (hs0 : s0.size ≤ maxLen) (w : World) :
    Calls Try.prog 3 #[.string s0] w fun e w' => e = .returned (.bool true) ∧ Below w.heap.size w w' := by
  unfold maxLen at hs0
  by_cases hlong : 40000 < s0.size
  · have h1 : (40000 : Int) < (s0.size : Int) := by omega
    go_enter Try.func3, Try.ntmps3
    go_wp2_with fail
    refine (B.awake_any _).mono ?_
    rintro e w1 ⟨rfl, hB1⟩
    go_wp2_with fail
    refine (B.awake_any _).mono ?_
    rintro e w2 ⟨rfl, hB2⟩
    go_wp2
    go_ret
    exact ⟨rfl, hB1.trans (hB2.mono hB1.size)⟩
  · have h1 : ¬ (40000 : Int) < (s0.size : Int) := by omega
    by_cases hz : s0.size = 0
    · exact bad s0 w 4 h1 (.inl rfl) (fun w => B.read_empty s0 w hz) (fun w => B.rread_empty s0 w hz)
    · by_cases hr : s0.size % 8 = 0
      · by_cases hb : 32768 < s0.size
        · exact bad s0 w 5 h1 (.inr rfl) (fun w => B.read_long s0 w hb hr (by omega)) (fun w => B.rread_long s0 w hb hr (by omega))
        · exact good s0 (s0.size / 8) w (by omega) (by omega) (by omega)
      · exact bad s0 w 4 h1 (.inl rfl) (fun w => B.read_broken s0 w (by omega) hr (by omega)) (fun w => B.rread_broken s0 w (by omega) hr (by omega))

set_option maxRecDepth 100000 in
theorem lifted (os : Os) (started : os.Started) (H : Type) (enc : TypeId × Value → H) :
    ReturnsInHanded {} Try.checked os 3 .any (Rows.instrReadsSpec.pre6 enc Try.prog Try.f3 Rows.instrReadsRow.domain false) (Rows.instrReadsSpec.post enc Try.prog Try.f3 false true false false) := by
  refine returnsInHanded_of_change (C := Try.checked) own started (by kernel_rfl) Try.func3
    (ChangeSpec.witness6 (enc := enc) (C := Try.checked) false ⟨#[], #[.string ByteArray.empty], []⟩ 8 (by kernel_rfl) (by kernel_rfl) (by kernel_rfl) (by kernel_rfl)) ?_
  intro W base args ds gs before hval0 hW hcnd _
  have hval : ∀ (j : Nat) t v, Try.f3.params[j]? = some t → args[j]? = some v → Value.okWide Try.prog W .any base t v := hval0
  have hW' := hW
  obtain ⟨p, q, hA0, hV, rfl, hfz, hnd⟩ := hW
  have hA : DataW.TrodAll enc Try.prog W 0 (fun _ => true) true Try.f3.params.toList args.toList ds p := hA0
  rw [Try.params3] at hA hval
  obtain ⟨v0, vs0, d0, ds0, p0, q0, hargs, rfl, rfl, h0, r0⟩ := trodAll_cons hA
  obtain ⟨rfl, rfl, rfl⟩ := trodAll_nil r0
  obtain rfl : args = #[v0] := by cases args; simp_all
  obtain ⟨rfl, rfl⟩ := trodVars_none hV
  obtain ⟨s0, rfl, hd0, hp0, hs0⟩ := Go.ChangeMaps.open_string Try.underlying9 (hval 0 9 v0 rfl rfl) h0
  clear hA0 hval0
  simp only [List.append_nil] at hW'
  have hlt0 : ∀ x ∈ p0, x.block < W.heap.size := fun x hx => by simpa using hW'.lt x (by simp [hx])
  refine (walk s0 hs0 W ).mono fun e W' ⟨he, hg⟩ => ?_
  subst he
  exact ⟨_, rfl, _, _, _, [], (p0 ++ []), [], hW', (trodAll_cons_mk (shut_bool Try.underlying4 _) trodAll_mk0), (trodAll_cons_mk (Below.trod laidOut (by kernel_rfl) (of_decide_eq_true (by kernel_rfl)) h0 hg hlt0) trodAll_mk0), rfl, hg.frame _, fun h => by cases h⟩

theorem over : Rows.instrReadsRow.holds Try.pinned (OpenSpec.ofChange Rows.instrReadsSpec) :=
  OpenClaim.holds_of_wide 3 Try.f3 rfl rfl rfl rfl rfl rfl rfl ⟨rfl, rfl, rfl, rfl, rfl⟩ rfl rfl rfl rfl rfl (by kernel_rfl) Try.func3 (by kernel_rfl)
    (of_decide_eq_true (by kernel_rfl)) (by unfold Func.isWrapper; first | (rw [if_pos (by decide +kernel)]; kernel_rfl) | (rw [if_neg (by decide +kernel)]; exact ⟨rfl, rfl⟩))
    (fun os started H enc _ => lifted os started H enc)

theorem proved : Rows.InstrReadsSaid :=
  over
#print axioms proved
end Go.Proofs.Yteoamndpphpegaa.instrReads
