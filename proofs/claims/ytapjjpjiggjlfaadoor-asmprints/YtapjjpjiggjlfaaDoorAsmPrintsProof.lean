/-
  For every program of at most 100 instructions (of a longer one the statement asks nothing more): its text is the document's, or none, and is read as it was.
-/
import Derived.Test.YtapjjpjiggjlfaaDoorRows
import Derived.WalkKit
import Derived.ProofKit
import Derived.OpenShut
import Derived.Carry
import Derived.Test.YtapjjpjiggjlfaaDoorTie
import Derived.Test.YtapjjpjiggjlfaaDoorCards
import Derived.SevenTiedAt
import Derived.Test.YtapjjpjiggjlfaaDoorAsmAwake
namespace Go.Proofs.YtapjjpjiggjlfaaDoor.asmPrints
open Go.ChangeShapes Go.WideShapes Go.ChangeAt Go.RowKit
set_option linter.unusedVariables false

theorem own : ownKnob Tryd.prog.godebug = none := by kernel_rfl
theorem laidOut : laidOutB Tryd.prog = true := by kernel_rfl
set_option maxHeartbeats 1600000 in
set_option maxRecDepth 1000000 in
theorem skip_ (a : Option Addr) (nl cap : Nat) (w : World) (hN : B.Nm w) (hb : nl ≤ 9223372036854775807) (h : 100 < nl) :
    Calls Tryd.prog 5 #[.slice a nl cap] w fun e w' => e = .returned (.bool true) ∧ Below w.heap.size w w' := by
  have c1 : (100 : Int) < (nl : Int) := by omega
  have HN := Lib.hid hN
  go_enter Tryd.func5, Tryd.ntmps5
  go_wp2_with fail
  refine (B.awake_any _ HN.out).mono ?_
  rintro e w1 ⟨rfl, hb⟩
  have hB := Lib.hid hb
  clear hb
  go_wp2_with fail
  refine (B.awake_any _ (HN.out.below hB.out)).mono ?_
  rintro e w2 ⟨rfl, hb⟩
  have hB := B.stp hB hb
  clear hb
  go_wp2
  go_ret
  exact ⟨rfl, hB.out⟩

theorem append_none (a : Option Addr) (cap : Nat) (H ty : Nat) (W : World) : (Builtin.append_ #[37, 37] ty #[.slice (some ⟨H, 0, none⟩) 0 0, .slice a 0 cap]).run Tryd.prog W = .ok (.slice (some ⟨H, 0, none⟩) 0 0) W := by
  obtain ⟨i0, hi, hz0, hz1, hz2⟩ := info_parts B.info39
  cases a <;> simp [Builtin.append_, run_underlying Tryd.underlying37, sizeOf, typeInfo, hi, Builtin.lenOf, Builtin.firstCells, storeCells, loadCells, loadCellsFrom]

theorem wpList_append_none {ops : Array Oper} {rest : List Oper} {oo : Oper} {a : Act} {w : World} {Q : Exit → Act → World → Prop} (hgd : oo.guard = none) (s x : Operand)
    (ho : oo.op = .call { callee := .builtin .append, args := #[s, x], argTypes := #[37, 37] }) (H cap : Nat) (ad : Option Addr) (hs : a.eval s = .slice (some ⟨H, 0, none⟩) 0 0) (hx : a.eval x = .slice ad 0 cap)
    (h : wpList Tryd.prog ops Q rest (a.put oo.dst (.slice (some ⟨H, 0, none⟩) 0 0)) w) : wpList Tryd.prog ops Q (oo :: rest) a w :=
  wpList_plain hgd fun _ hK => by
    have hr := append_none ad cap H oo.type w
    unfold Oper.wp execOp
    simp only [ho, resolve, invoke, builtin, Sem.run_bind, Sem.run_pure, Result.andThen_ok, List.map_toArray, List.map_cons, List.map_nil, hs, hx, hr]
    exact hK _ _ h

set_option maxHeartbeats 1600000 in
set_option maxRecDepth 1000000 in
theorem empty_ (a : Option Addr) (cap : Nat) (w : World) (hN : B.Nm w) :
    Calls Tryd.prog 5 #[.slice a 0 cap] w fun e w' => e = .returned (.bool true) ∧ Below w.heap.size w w' := by
  have HN := Lib.hid hN
  clear hN
  go_enter Tryd.func5, Tryd.ntmps5
  go_wp2_with fail
  refine (B.awake_any _ HN.out).mono ?_
  rintro e w1 ⟨rfl, hb⟩
  have hB := Lib.hid hb
  clear hb
  go_wp2_with (at_builtin; refine wpList_append_none rfl _ _ rfl w1.heap.size cap a rfl rfl ?_)
  refine (B.aprint_none _ _ _).mono ?_
  rintro e w2 ⟨rfl, hb⟩
  have hB := B.al_stp hB hb
  clear hb
  go_wp2_with fail
  refine (B.tprint_none _ _ _).mono ?_
  rintro e w3 ⟨rfl, hb⟩
  have hB := B.stp hB hb
  clear hb
  go_wp2_with fail
  refine (B.aread_empty _).mono ?_
  rintro e w4 ⟨rfl, hb⟩
  have hB := B.stp hB hb
  clear hb
  go_wp2
  go_ret
  exact ⟨rfl, hB.out⟩

set_option maxHeartbeats 3200000 in
set_option maxRecDepth 1000000 in
theorem main_ (b o nl cap : Nat) (l : List M.I) (w : World) (hN : B.Nm w) (hn : l.length = nl) (h0 : 0 < nl) (h1 : nl ≤ 100) (hl : B.Lies w (some ⟨b, o, none⟩) l) (ok : ∀ i ∈ l, M.okI i) :
    Calls Tryd.prog 5 #[.slice (some ⟨b, o, none⟩) nl cap] w fun e w' => e = .returned (.bool true) ∧ Below w.heap.size w w' := by
  obtain ⟨i0, hi, hz0, hz1, hz2⟩ := info_parts B.info39
  have c2 : ¬ 100 < (nl : Int) := by omega
  obtain ⟨T, hT⟩ : ∃ T : ByteArray, T = ⟨(M.print l).1.toArray⟩ := ⟨_, rfl⟩
  obtain ⟨er, her⟩ : ∃ er, er = (M.print l).2 := ⟨_, rfl⟩
  have hne : l ≠ [] := by rintro rfl; simp at hn; omega
  have cP : ∀ (g o' cap : Nat) w, B.Lies w (some ⟨g, o', none⟩) l → B.Nm w → Calls Tryd.prog 17 #[.slice (some ⟨g, o', none⟩) nl cap] w fun e w' => e = .returned (.tuple #[.string T, .int .i64 er]) ∧ Below w.heap.size w w' := by
    intro g o' cap w hl hw
    rw [hT, her, ← hn]
    exact B.aprint_some (some ⟨g, o', none⟩) l cap w hl ok (by omega) (by omega) hw
  have cQ : ∀ w, B.Lies w (some ⟨b, o, none⟩) l → Calls Tryd.prog 18 #[.slice (some ⟨b, o, none⟩) nl cap] w fun e w' => e = .returned (.tuple #[.string T, .int .i64 er]) ∧ Below w.heap.size w w' := by
    intro w hl
    rw [hT, her, ← hn]
    exact B.tprint_some (some ⟨b, o, none⟩) l cap w hl ok (by omega) (by omega)
  have hcase : ((er != 0) = true ∧ ∀ w, B.Nm w → Calls Tryd.prog 14 #[.string T] w fun e w' => ∃ v p q, e = .returned (.tuple #[v, .int .i64 p, .int .i64 q]) ∧ Below w.heap.size w w')
      ∨ ((er != 0) = false ∧ ∀ w, B.Nm w → Calls Tryd.prog 14 #[.string T] w fun e w' => ∃ g cap, e = .returned (.tuple #[.slice (some ⟨g, 0, none⟩) nl cap, .int .i64 0, .int .i64 0]) ∧ B.Lies w' (some ⟨g, 0, none⟩) l ∧ Below w.heap.size w w') := by
    by_cases hbad : M.bad l = 0
    · right
      have hp : M.print l = (M.txt l, 0) := by unfold M.print; rw [if_neg hne, if_neg (by omega), if_pos hbad]
      rw [hp] at hT her
      have hTl : T.data.toList = M.txt l := by rw [hT]
      have hlen := M.txt_len l
      have hcount := M.txt_count ok
      have hrows := M.rows_txt l ok hbad 0 []
      rw [List.append_nil] at hrows
      have hr : M.rows [] 0 (M.txt l) = .inr l := by rw [hrows]; simp [M.rows, M.moreL]
      refine ⟨by rw [her]; rfl, fun w hw => ?_⟩
      have := B.aread_rows T (by rw [hTl]; intro e; rw [e] at hcount; simp at hcount; omega) (by rw [B.bdl, hTl]; omega) (by rw [hTl, hcount]; omega) w hw
      rw [hTl, hr] at this
      refine this.mono ?_
      rintro e w' ⟨g, cap, h1, h2, h3⟩
      exact ⟨g, cap, by rw [← hn]; exact h1, h2, h3⟩
    · left
      have hp : M.print l = ([], M.bad l) := by unfold M.print; rw [if_neg hne, if_neg (by omega), if_neg hbad]
      rw [hp] at hT her
      refine ⟨by rw [her]; simpa using hbad, fun w hw => ?_⟩
      have e : T = ⟨#[]⟩ := hT
      rw [e]
      exact (B.aread_empty w).mono fun e w' ⟨h1, h2⟩ => ⟨_, _, _, h1, h2⟩
  have HH := Lib.hid (And.intro hn (And.intro hl ok))
  have HN := Lib.hid hN
  clear hn hl ok hT her hne hN
  rcases hcase with ⟨hz, cR⟩ | ⟨hz, cR⟩
  all_goals
    go_enter Tryd.func5, Tryd.ntmps5
    go_wp2_with fail
    refine (B.awake_any _ HN.out).mono ?_
    rintro e w1 ⟨rfl, hB1⟩
    have HL1 : Hid (B.Lies w1 (some ⟨b, o, none⟩) l) := HH.out.2.1.below hB1
    go_wp2_with (at_builtin; refine wpList_append_lies _ rfl _ _ 37 rfl w1.heap.size 25 i0 (.agg #[.int .u16 0, .int .u8 0, .int .u8 0, .int .u32 0]) 4 8 Tryd.underlying37 hi hz0 hz1 hz2 rfl (by decide) _ 0 _ rfl (B.own_empty w1) ⟨b, o, none⟩ nl cap (B.i4s l) rfl ?c0 ?c1 ?c2 h0 ?c3 ?c4 ?c5 (w1.heap.size + 1) ?c6 ?_)
    case c0 => rw [B.i4s_len, HH.out.1]
    case c1 => exact B.lies_cells (HL1.out.below ((Below.refl _ _).alloc (Nat.le_refl _) _))
    case c2 => exact B.i4s_one l
    case c3 => unfold maxLen; omega
    case c4 => omega
    case c5 => simp
    case c6 => simp
    intro g cap2 w2 hown2 hgrow hat hlt2
    have hB2 : Below w1.heap.size w1 w2 := ((Below.refl _ _).alloc (Nat.le_refl _) _).grown hgrow (by simp) (by intro k hk; simp [Value.ownBlock] at hk; omega)
    have HL2 : Hid (B.Lies w2 (some ⟨g, 0, none⟩) l ∧ B.Lies w2 (some ⟨b, o, none⟩) l) := ⟨B.lies_of_own hown2 (by rw [HH.out.1]), HL1.out.below hB2⟩
    have hB := B.stp (Lib.hid hB1) hB2
    clear hown2 hgrow hat hlt2 hB2 hB1 HL1
    go_wp2_with fail
    refine (cP _ _ _ _ HL2.out.1 (HN.out.below hB.out)).mono ?_
    rintro e w3 ⟨rfl, hb3⟩
    have hB := B.stp hB hb3
    have HL3 : Hid (B.Lies w3 (some ⟨b, o, none⟩) l) := HL2.out.2.below hb3
    clear hb3 HL2
    go_wp2_with fail
    refine (cQ _ HL3.out).mono ?_
    rintro e w4 ⟨rfl, hb4⟩
    have hB := B.stp hB hb4
    have HL4 : Hid (B.Lies w4 (some ⟨b, o, none⟩) l) := HL3.out.below hb4
    clear hb4 HL3
    go_wp2_with fail
  · refine (cR _ (HN.out.below hB.out)).mono ?_
    rintro e w5 ⟨v, p, q, rfl, hb5⟩
    have hB := B.stp hB hb5
    clear hb5
    go_wp2
    go_ret
    exact ⟨rfl, hB.out⟩
  · refine (cR _ (HN.out.below hB.out)).mono ?_
    rintro e w5 ⟨g5, cap5, rfl, hL5, hb5⟩
    have hB := B.stp hB hb5
    have HL5 : Hid (B.Lies w5 (some ⟨g5, 0, none⟩) l ∧ B.Lies w5 (some ⟨b, o, none⟩) l) := ⟨hL5, HL4.out.below hb5⟩
    clear hb5 HL4 hL5
    go_wp2_with fail
    refine (B.rsame_len _ _ l l nl nl _ _ _ HH.out.1 HH.out.1 HL5.out.1 HL5.out.2 (by omega) (by omega) true (by simp)).mono ?_
    rintro e w6 ⟨rfl, q, rfl⟩
    go_wp2
    go_ret
    exact ⟨rfl, below_drewN hB.out q⟩

set_option maxHeartbeats 3200000 in
set_option maxRecDepth 1000000 in
theorem walk (a0 : Option Addr) (cap0 : Nat) (l0 : List M.I) (hn0 : l0.length ≤ cap0) (hm0 : cap0 ≤ maxLen) (ok0 : ∀ i ∈ l0, M.okI i) (w : World) (hN : B.Nm w) (hl0 : B.Lies w a0 l0) :
    Calls Tryd.prog 5 #[.slice a0 l0.length cap0] w fun e w' => e = .returned (.bool true) ∧ Below w.heap.size w w' := by
  by_cases h : 100 < l0.length
  · exact skip_ a0 l0.length cap0 w hN (by have := hm0; unfold maxLen at this; omega) h
  · by_cases hz : l0.length = 0
    · rw [hz]; exact empty_ a0 cap0 w hN
    · rcases hl0 with hl | ⟨b, o, rfl, hb, hl⟩
      · exfalso; rw [hl] at hz; simp at hz
      · exact main_ b o l0.length cap0 l0 w hN rfl (by omega) (by omega) (.inr ⟨b, o, rfl, hb, hl⟩) ok0

set_option maxRecDepth 100000 in
theorem lifted (os : Os) (started : os.Started) (H : Type) (enc : TypeId × Value → H) :
    ReturnsInHanded {} Tryd.checked os 5 .any (fun w args => (Rows.asmPrintsSpec.pre enc Tryd.prog Tryd.f5 [] false w args ∧ laidMetH Tryd.prog B.laidL w) ∧ sizedMet enc Tryd.prog Tryd.f5 (OpenSpec.ofChange Rows.asmPrintsSpec) false w args)
      (Rows.asmPrintsSpec.post enc Tryd.prog Tryd.f5 false true false false) := by
  refine returnsInHanded_of_change_and (C := Tryd.checked) (X := fun w _ => laidMetH Tryd.prog B.laidL w) (fun _ _ _ hh h => h.of_heap hh) own started (by kernel_rfl) Tryd.func5
    (ChangeSpec.witness_shaped (enc := enc) (C := Tryd.checked) (os := os) (X := fun w _ => laidMetH Tryd.prog B.laidL w) false (World.doorLaid Tryd.prog 400 os) #[.slice none 0 0] 8 rfl (World.shaped_of_RefB (by kernel_rfl) (by kernel_rfl)) (by kernel_rfl) (by kernel_rfl) (by kernel_rfl) (B.door_met os _)) ?_
  intro W base args ds gs before hval0 hW _ _ hL _
  have hval : ∀ (j : Nat) t v, Tryd.f5.params[j]? = some t → args[j]? = some v → Value.okWide Tryd.prog W .any base t v := hval0
  have hW' := hW
  obtain ⟨p, q, hA0, hV, rfl, hfz, hnd⟩ := hW
  have hA : DataW.TrodAll enc Tryd.prog W 0 (fun _ => true) true Tryd.f5.params.toList args.toList ds p := hA0
  rw [Tryd.params5] at hA hval
  obtain ⟨v0, vs0, d0, ds0, p0, q0, hargs, rfl, rfl, h0, r0⟩ := trodAll_cons hA
  obtain ⟨rfl, rfl, rfl⟩ := trodAll_nil r0
  obtain rfl : args = #[v0] := by cases args; simp_all
  obtain ⟨rfl, rfl⟩ := trodVars_none hV
  obtain ⟨a0, cap0, l0, rfl, hn0, hm0, hl0, ok0, _⟩ := B.arg_list (hval 0 37 v0 rfl rfl) h0
  clear hA0 hval0
  simp only [List.append_nil] at hW'
  have hlt0 : ∀ x ∈ p0, x.block < W.heap.size := fun x hx => by simpa using hW'.lt x (by simp [hx])
  refine (walk a0 cap0 l0 hn0 hm0 ok0 W (B.of_laid hL) hl0).mono fun e W' ⟨he, hg⟩ => ?_
  subst he
  exact ⟨_, rfl, _, _, _, [], (p0 ++ []), [], hW', (trodAll_cons_mk (shut_bool Tryd.underlying4 _) trodAll_mk0), (trodAll_cons_mk (Below.trod laidOut (by kernel_rfl) (of_decide_eq_true (by kernel_rfl)) h0 hg hlt0) trodAll_mk0), rfl, hg.frame _, fun h => by cases h⟩

theorem over : Rows.asmPrintsRow.holds Tryd.pinned (OpenSpec.ofChange Rows.asmPrintsSpec) :=
  OpenClaim.holds_of_wide 5 Tryd.f5 rfl rfl rfl rfl rfl rfl rfl ⟨rfl, rfl, rfl, rfl, rfl⟩ rfl rfl rfl rfl rfl (by kernel_rfl) Tryd.func5 (by kernel_rfl)
    (of_decide_eq_true (by kernel_rfl)) (by unfold Func.isWrapper; first | (rw [if_pos (by decide +kernel)]; kernel_rfl) | (rw [if_neg (by decide +kernel)]; exact ⟨rfl, rfl⟩))
    (fun os started H enc _ => lifted os started H enc)

theorem proved : Rows.AsmPrintsCardSaid :=
  Claim7.holds_tied_plain_at .later [] [.data, .data, .data, .sentinel, .sentinel] true (true, "058f8c6c10db4b7d94f8f322adace66690a8fd2e27c19ca23c17c710e3ff2ac4") true
    over (fun _ h => by cases h) (by kernel_rfl) (fun _ h => by cases h) asmPrints_row_tie rfl ⟨rfl, rfl⟩ (by kernel_rfl) rfl
    (fun f fn hf hfn => by
      obtain rfl : f = 5 := Option.some.inj ((show Tryd.prog.funcNamed "tamis/tamislaw05.AsmPrints" = some 5 by kernel_rfl).symm.trans hf) |>.symm
      obtain rfl : fn = Tryd.f5 := (Option.some.inj (Tryd.func5.symm.trans hfn)).symm
      exact ⟨by kernel_rfl, fun j t ht => by
        rw [Tryd.params5] at ht
        have hm : t ∈ [37] := by simpa using Array.mem_of_getElem? ht
        have hall : ([37].all fun u => !Tryd.prog.wantsStandIn u) = true := by kernel_rfl
        exact (show Tryd.prog.wantsStandIn t = false by simpa using List.all_eq_true.1 hall t hm)⟩)
    (by kernel_rfl)
#print axioms proved
end Go.Proofs.YtapjjpjiggjlfaaDoor.asmPrints
