/-
  For every program, its bytes are what the document says, eight for each instruction, and they are read as it was; no condition.
-/
import Derived.Test.YteoamndpphpegaaRows
import Derived.WalkKit
import Derived.ProofKit
import Derived.OpenShut
import Derived.Carry
import Derived.Test.YteoamndpphpegaaInsJoin
namespace Go.Proofs.Yteoamndpphpegaa.instrPrints
open Go.ChangeShapes Go.WideShapes Go.ChangeAt Go.RowKit
set_option linter.unusedVariables false

theorem own : ownKnob Try.prog.godebug = none := by kernel_rfl
theorem laidOut : laidOutB Try.prog = true := by kernel_rfl
set_option maxHeartbeats 1600000 in
set_option maxRecDepth 1000000 in
theorem skip_ (a : Option Addr) (nl cap : Nat) (w : World) (hb : nl ≤ 9223372036854775807) (h : 200 < nl) :
    Calls Try.prog 4 #[.slice a nl cap] w fun e w' => e = .returned (.bool true) ∧ Below w.heap.size w w' := by
  have c1 : (200 : Int) < (nl : Int) := by omega
  go_enter Try.func4, Try.ntmps4
  go_wp2_with fail
  refine (B.awake_any _).mono ?_
  rintro e w1 ⟨rfl, hB1⟩
  go_wp2_with fail
  refine (B.awake_any _).mono ?_
  rintro e w2 ⟨rfl, hB2⟩
  go_wp2
  go_ret
  exact ⟨rfl, hB1.trans (hB2.mono hB1.size)⟩

theorem append_none (a : Option Addr) (cap : Nat) (H ty : Nat) (W : World) : (Builtin.append_ #[23, 23] ty #[.slice (some ⟨H, 0, none⟩) 0 0, .slice a 0 cap]).run Try.prog W = .ok (.slice (some ⟨H, 0, none⟩) 0 0) W := by
  obtain ⟨i0, hi, hz0, hz1, hz2⟩ := info_parts B.info39
  cases a <;> simp [Builtin.append_, run_underlying Try.underlying23, sizeOf, typeInfo, hi, Builtin.lenOf, Builtin.firstCells, storeCells, loadCells, loadCellsFrom]

theorem wpList_append_none {ops : Array Oper} {rest : List Oper} {oo : Oper} {a : Act} {w : World} {Q : Exit → Act → World → Prop} (hgd : oo.guard = none) (s x : Operand)
    (ho : oo.op = .call { callee := .builtin .append, args := #[s, x], argTypes := #[23, 23] }) (H cap : Nat) (ad : Option Addr) (hs : a.eval s = .slice (some ⟨H, 0, none⟩) 0 0) (hx : a.eval x = .slice ad 0 cap)
    (h : wpList Try.prog ops Q rest (a.put oo.dst (.slice (some ⟨H, 0, none⟩) 0 0)) w) : wpList Try.prog ops Q (oo :: rest) a w :=
  wpList_plain hgd fun _ hK => by
    have hr := append_none ad cap H oo.type w
    unfold Oper.wp execOp
    simp only [ho, resolve, invoke, builtin, Sem.run_bind, Sem.run_pure, Result.andThen_ok, List.map_toArray, List.map_cons, List.map_nil, hs, hx, hr]
    exact hK _ _ h

set_option maxHeartbeats 1600000 in
set_option maxRecDepth 1000000 in
theorem empty_ (a : Option Addr) (cap : Nat) (w : World) :
    Calls Try.prog 4 #[.slice a 0 cap] w fun e w' => e = .returned (.bool true) ∧ Below w.heap.size w w' := by
  go_enter Try.func4, Try.ntmps4
  go_wp2_with fail
  refine (B.awake_any _).mono ?_
  rintro e w1 ⟨rfl, hB1⟩
  go_wp2_with (at_builtin; refine wpList_append_none rfl _ _ rfl w1.heap.size cap a rfl rfl ?_)
  refine (B.print_none _ _ _).mono ?_
  rintro e w2 ⟨rfl, rfl⟩
  go_wp2_with fail
  refine (B.rprint_none _ _ _).mono ?_
  rintro e w3 ⟨rfl, rfl⟩
  go_wp2_with fail
  refine (B.read_empty _ _ rfl).mono ?_
  rintro e w4 ⟨rfl, rfl⟩
  go_wp2
  go_ret
  exact ⟨rfl, hB1.alloc hB1.size _⟩

set_option maxHeartbeats 1600000 in
set_option maxRecDepth 1000000 in
theorem main_ (b o nl cap : Nat) (l : List M.I) (w : World) (hn : l.length = nl) (h0 : 0 < nl) (h1 : nl ≤ 200) (hl : B.Lies w (some ⟨b, o, none⟩) l) (ok : ∀ i ∈ l, M.okI i) :
    Calls Try.prog 4 #[.slice (some ⟨b, o, none⟩) nl cap] w fun e w' => e = .returned (.bool true) ∧ Below w.heap.size w w' := by
  obtain ⟨i0, hi, hz0, hz1, hz2⟩ := info_parts B.info39
  have c2 : ¬ 200 < (nl : Int) := by omega
  obtain ⟨T, hT⟩ : ∃ T, M.str (M.pr l) = T := ⟨_, rfl⟩
  have hTs : T.size = 8 * nl := by rw [← hT, M.str_size, M.pr_len, hn]
  have hTr : M.rdl T nl = l := by rw [← hT, ← hn]; exact M.rdl_pr_all l ok
  have HH : Hid (l.length = nl ∧ B.Lies w (some ⟨b, o, none⟩) l ∧ (∀ i ∈ l, M.okI i) ∧ M.str (M.pr l) = T ∧ T.size = 8 * nl ∧ M.rdl T nl = l) := ⟨hn, hl, ok, hT, hTs, hTr⟩
  have ht : (T.size : Int) = 8 * (nl : Int) := by omega
  clear hn hl ok hT hTs hTr
  go_enter Try.func4, Try.ntmps4
  go_wp2_with fail
  refine (B.awake_any _).mono ?_
  rintro e w1 ⟨rfl, hB1⟩
  have HL1 : Hid (B.Lies w1 (some ⟨b, o, none⟩) l) := HH.out.2.1.below hB1
  go_wp2_with (at_builtin; refine wpList_append_lies _ rfl _ _ 23 rfl w1.heap.size 39 i0 (.agg #[.int .u16 0, .int .u8 0, .int .u8 0, .int .u32 0]) 4 8 Try.underlying23 hi hz0 hz1 hz2 rfl (by decide) _ 0 _ rfl (B.own_empty w1) ⟨b, o, none⟩ nl cap (B.i4s l) rfl ?c0 ?c1 ?c2 h0 ?c3 ?c4 ?c5 (w1.heap.size + 1) ?c6 ?_)
  case c0 => rw [B.i4s_len, HH.out.1]
  case c1 => exact B.lies_cells (HL1.out.below ((Below.refl _ _).alloc (Nat.le_refl _) _))
  case c2 => exact B.i4s_one l
  case c3 => unfold maxLen; omega
  case c4 => omega
  case c5 => simp
  case c6 => simp
  intro g cap2 w2 hown2 hgrow hat hlt2
  have hB2 : Below w1.heap.size w1 w2 := ((Below.refl _ _).alloc (Nat.le_refl _) _).grown hgrow (by simp) (by intro k hk; simp [Value.ownBlock] at hk; omega)
  have HL2 : Hid (B.Lies w2 (some ⟨g, 0, none⟩) l ∧ B.Lies w2 (some ⟨b, o, none⟩) l) := ⟨B.lies_of_own hown2 HH.out.1, HL1.out.below hB2⟩
  have hbw2 : Below w.heap.size w w2 := hB1.trans (hB2.mono hB1.size)
  clear hown2 hgrow hat hlt2 hB2 hB1 HL1
  go_wp2_with fail
  refine (B.print_len _ l nl _ _ HH.out.1 HL2.out.1 HH.out.2.2.1 h0 (by omega) T HH.out.2.2.2.1).mono ?_
  rintro e w3 ⟨rfl, hB3⟩
  have hbw3 : Below w.heap.size w w3 := hbw2.trans (hB3.mono hbw2.size)
  have HL3 : Hid (B.Lies w3 (some ⟨b, o, none⟩) l) := HL2.out.2.below hB3
  clear hB3 hbw2 HL2
  go_wp2_with fail
  refine (B.rprint_len _ l nl _ _ HH.out.1 HL3.out HH.out.2.2.1 h0 (by omega) T HH.out.2.2.2.1).mono ?_
  rintro e w4 ⟨rfl, hB4⟩
  have hbw4 : Below w.heap.size w w4 := hbw3.trans (hB4.mono hbw3.size)
  have HL4 : Hid (B.Lies w4 (some ⟨b, o, none⟩) l) := HL3.out.below hB4
  clear hB4 hbw3 HL3
  go_wp2_with fail
  refine (B.read_len T nl _ HH.out.2.2.2.2.1 h0 (by omega) l HH.out.2.2.2.2.2).mono ?_
  rintro e w5 ⟨g5, cap5, rfl, hL5, hB5⟩
  have hbw5 : Below w.heap.size w w5 := hbw4.trans (hB5.mono hbw4.size)
  have HL5 : Hid (B.Lies w5 (some ⟨g5, 0, none⟩) l ∧ B.Lies w5 (some ⟨b, o, none⟩) l) := ⟨hL5, HL4.out.below hB5⟩
  clear hB5 hbw4 HL4 hL5
  go_wp2_with fail
  refine (B.rsame_len _ _ l l nl nl _ _ _ HH.out.1 HH.out.1 HL5.out.1 HL5.out.2 (by omega) (by omega) true (by simp)).mono ?_
  rintro e w6 ⟨rfl, q, rfl⟩
  go_wp2_with fail
  refine (B.same_len _ _ l l nl nl _ _ _ HH.out.1 HH.out.1 (HL5.out.1.drewN q) (HL5.out.2.drewN q) (by omega) (by omega) true (by simp)).mono ?_
  rintro e w7 ⟨rfl, q2, rfl⟩
  go_wp2
  go_ret
  exact ⟨rfl, B.below_drawn hbw5 _⟩

set_option maxHeartbeats 3200000 in
set_option maxRecDepth 1000000 in
theorem walk (a0 : Option Addr) (cap0 : Nat) (l0 : List M.I) (hn0 : l0.length ≤ cap0) (hm0 : cap0 ≤ maxLen) (ok0 : ∀ i ∈ l0, M.okI i) (w : World) (hl0 : B.Lies w a0 l0) :
    Calls Try.prog 4 #[.slice a0 l0.length cap0] w fun e w' => e = .returned (.bool true) ∧ Below w.heap.size w w' := by
  by_cases h : 200 < l0.length
  · exact skip_ a0 l0.length cap0 w (by have := hm0; unfold maxLen at this; omega) h
  · by_cases hz : l0.length = 0
    · rw [hz]; exact empty_ a0 cap0 w
    · rcases hl0 with hl | ⟨b, o, rfl, hb, hl⟩
      · exfalso; rw [hl] at hz; simp at hz
      · exact main_ b o l0.length cap0 l0 w rfl (by omega) (by omega) (.inr ⟨b, o, rfl, hb, hl⟩) ok0

set_option maxRecDepth 100000 in
theorem lifted (os : Os) (started : os.Started) (H : Type) (enc : TypeId × Value → H) :
    ReturnsInHanded {} Try.checked os 4 .any (Rows.instrPrintsSpec.pre6 enc Try.prog Try.f4 Rows.instrPrintsRow.domain false) (Rows.instrPrintsSpec.post enc Try.prog Try.f4 false true false false) := by
  refine returnsInHanded_of_change (C := Try.checked) own started (by kernel_rfl) Try.func4
    (ChangeSpec.witness6 (enc := enc) (C := Try.checked) false ⟨#[], #[.slice none 0 0], []⟩ 8 (by kernel_rfl) (by kernel_rfl) (by kernel_rfl) (by kernel_rfl)) ?_
  intro W base args ds gs before hval0 hW hcnd _
  have hval : ∀ (j : Nat) t v, Try.f4.params[j]? = some t → args[j]? = some v → Value.okWide Try.prog W .any base t v := hval0
  have hW' := hW
  obtain ⟨p, q, hA0, hV, rfl, hfz, hnd⟩ := hW
  have hA : DataW.TrodAll enc Try.prog W 0 (fun _ => true) true Try.f4.params.toList args.toList ds p := hA0
  rw [Try.params4] at hA hval
  obtain ⟨v0, vs0, d0, ds0, p0, q0, hargs, rfl, rfl, h0, r0⟩ := trodAll_cons hA
  obtain ⟨rfl, rfl, rfl⟩ := trodAll_nil r0
  obtain rfl : args = #[v0] := by cases args; simp_all
  obtain ⟨rfl, rfl⟩ := trodVars_none hV
  obtain ⟨a0, cap0, l0, rfl, hn0, hm0, hl0, ok0, _⟩ := B.arg_list (hval 0 23 v0 rfl rfl) h0
  clear hA0 hval0
  simp only [List.append_nil] at hW'
  have hlt0 : ∀ x ∈ p0, x.block < W.heap.size := fun x hx => by simpa using hW'.lt x (by simp [hx])
  refine (walk a0 cap0 l0 hn0 hm0 ok0 W hl0).mono fun e W' ⟨he, hg⟩ => ?_
  subst he
  exact ⟨_, rfl, _, _, _, [], (p0 ++ []), [], hW', (trodAll_cons_mk (shut_bool Try.underlying4 _) trodAll_mk0), (trodAll_cons_mk (Below.trod laidOut (by kernel_rfl) (of_decide_eq_true (by kernel_rfl)) h0 hg hlt0) trodAll_mk0), rfl, hg.frame _, fun h => by cases h⟩

theorem over : Rows.instrPrintsRow.holds Try.pinned (OpenSpec.ofChange Rows.instrPrintsSpec) :=
  OpenClaim.holds_of_wide 4 Try.f4 rfl rfl rfl rfl rfl rfl rfl ⟨rfl, rfl, rfl, rfl, rfl⟩ rfl rfl rfl rfl rfl (by kernel_rfl) Try.func4 (by kernel_rfl)
    (of_decide_eq_true (by kernel_rfl)) (by unfold Func.isWrapper; first | (rw [if_pos (by decide +kernel)]; kernel_rfl) | (rw [if_neg (by decide +kernel)]; exact ⟨rfl, rfl⟩))
    (fun os started H enc _ => lifted os started H enc)

theorem proved : Rows.InstrPrintsSaid :=
  over
#print axioms proved
end Go.Proofs.Yteoamndpphpegaa.instrPrints
