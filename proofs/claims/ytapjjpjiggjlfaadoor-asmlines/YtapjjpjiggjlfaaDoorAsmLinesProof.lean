/-
  For every instruction and every text (of a text longer than 100 bytes the statement asks nothing more): the line is the document's, or none, and is read as it was; a text is the instruction that the document says, or none.
-/
import Derived.Test.YtapjjpjiggjlfaaDoorRows
import Derived.WalkKit
import Derived.ProofKit
import Derived.OpenShut
import Derived.Carry
import Derived.Test.YtapjjpjiggjlfaaDoorTie
import Derived.Test.YtapjjpjiggjlfaaDoorCards
import Derived.SevenTiedAt
import Derived.Test.YtapjjpjiggjlfaaDoorAsmAwake
namespace Go.Proofs.YtapjjpjiggjlfaaDoor.asmLines
open Go.ChangeShapes Go.WideShapes Go.ChangeAt Go.RowKit
set_option linter.unusedVariables false

theorem own : ownKnob Tryd.prog.godebug = none := by kernel_rfl
theorem laidOut : laidOutB Tryd.prog = true := by kernel_rfl
set_option maxHeartbeats 3200000 in
set_option maxRecDepth 1000000 in
theorem long (c t f k : Int) (s : ByteArray) (w : World) (hN : B.Nm w) (h : 100 < s.size) :
    Calls Tryd.prog 3 #[.agg #[.int .u16 c, .int .u8 t, .int .u8 f, .int .u32 k], .string s] w fun e w' => e = .returned (.bool true) ∧ Below w.heap.size w w' := by
  have h1 : (100 : Int) < s.size := by omega
  have HN := Lib.hid hN
  have hB := Lib.hid (Below.refl w.heap.size w)
  go_enter Tryd.func3, Tryd.ntmps3
  go_wp2_with fail
  refine (B.awake_any _ (HN.out.below (B.al _ _))).mono ?_
  rintro e w1 ⟨rfl, hb⟩
  have hB := B.al_stp hB hb
  clear hb
  go_wp2_with fail
  refine (B.awake_any _ (HN.out.below hB.out)).mono ?_
  rintro e w2 ⟨rfl, hb⟩
  have hB := B.stp hB hb
  clear hb
  go_wp2
  go_ret
  exact ⟨rfl, hB.out⟩

set_option maxHeartbeats 6400000 in
set_option maxRecDepth 1000000 in
theorem body (c t f k : Int) (s : ByteArray) (hs : s.size ≤ 100) (T U : ByteArray) (er hh jc jt jf jk je xc xt xf xk g : Int) (b : Bool)
    (cL : ∀ w, B.Nm w → Calls Tryd.prog 10 #[.agg #[.int .u16 c, .int .u8 t, .int .u8 f, .int .u32 k]] w fun e w' => e = .returned (.tuple #[.string T, .int .i64 er]) ∧ Below w.heap.size w w')
    (cR : ∀ w, Calls Tryd.prog 11 #[.agg #[.int .u16 c, .int .u8 t, .int .u8 f, .int .u32 k]] w fun e w' => e = .returned (.tuple #[.string T, .int .i64 er]) ∧ Below w.heap.size w w')
    (cT : ∀ w, B.Nm w → Calls Tryd.prog 12 #[.string T] w fun e w' => e = .returned (.tuple #[.agg #[.int .u16 jc, .int .u8 jt, .int .u8 jf, .int .u32 jk], .int .i64 je]) ∧ Below w.heap.size w w')
    (cS : ∀ w, B.Nm w → Calls Tryd.prog 12 #[.string s] w fun e w' => e = .returned (.tuple #[.agg #[.int .u16 xc, .int .u8 xt, .int .u8 xf, .int .u32 xk], .int .i64 g]) ∧ Below w.heap.size w w')
    (cQ : ∀ w, Calls Tryd.prog 13 #[.string s] w fun e w' => e = .returned (.tuple #[.agg #[.int .u16 xc, .int .u8 xt, .int .u8 xf, .int .u32 xk], .bool b]) ∧ Below w.heap.size w w')
    (cU : ∀ w, B.Nm w → Calls Tryd.prog 10 #[.agg #[.int .u16 xc, .int .u8 xt, .int .u8 xf, .int .u32 xk]] w fun e w' => e = .returned (.tuple #[.string U, .int .i64 hh]) ∧ Below w.heap.size w w')
    (h1 : (er != 0) = true ∨ ((er != 0) = false ∧ (jc = c ∧ jt = t ∧ jf = f ∧ jk = k) ∧ je = 0))
    (h2 : (b = true ∧ g = 0 ∧ (U.toList == s.toList) = true ∧ hh = 0) ∨ (b = false ∧ g = 3))
    (w : World) (hN : B.Nm w) :
    Calls Tryd.prog 3 #[.agg #[.int .u16 c, .int .u8 t, .int .u8 f, .int .u32 k], .string s] w fun e w' => e = .returned (.bool true) ∧ Below w.heap.size w w' := by
  have i1 : ¬ (100 : Int) < s.size := by omega
  have HN := Lib.hid hN
  have hB := Lib.hid (Below.refl w.heap.size w)
  have hg := B.guard39
  have hq := B.eql39
  clear hN hs
  rcases h1 with h1 | ⟨h1, ⟨rfl, rfl, rfl, rfl⟩, rfl⟩ <;> rcases h2 with ⟨rfl, rfl, h3, rfl⟩ | ⟨rfl, rfl⟩
  all_goals
    go_enter Tryd.func3, Tryd.ntmps3
    go_wp2_with fail
    refine (B.awake_any _ (HN.out.below (B.al _ _))).mono ?_
    rintro e w1 ⟨rfl, hb⟩
    have hI := (B.At.new w _ _ _ _).below hb
    have hB := B.al_stp hB hb
    obtain ⟨a0, a1, a2, a3, a4⟩ := hI.cells
    clear hb
    go_wp2_with fail
    refine (cL _ (HN.out.below hB.out)).mono ?_
    rintro e w2 ⟨rfl, hb⟩
    have hI := hI.below hb
    have hB := B.stp hB hb
    obtain ⟨a0, a1, a2, a3, a4⟩ := hI.cells
    clear hb
    go_wp2_with fail
    refine (cR _).mono ?_
    rintro e w3 ⟨rfl, hb⟩
    have hI := hI.below hb
    have hB := B.stp hB hb
    clear hb
    go_wp2_with fail
    refine (cT _ (HN.out.below hB.out)).mono ?_
    rintro e w4 ⟨rfl, hb⟩
    have hI := hI.below hb
    have hB := B.stp hB hb
    clear hb
    go_wp2_with fail
    refine (cS _ (HN.out.below (hB.out.trans ((B.al _ _).mono hB.out.size)))).mono ?_
    rintro e w5 ⟨rfl, hb⟩
    have hI := (hI.alloc _).below hb
    have hJ := (B.At.new w4 _ _ _ _).below hb
    have hB := B.al_stp hB hb
    clear hb
    go_wp2_with fail
    refine (cQ _).mono ?_
    rintro e w6 ⟨rfl, hb⟩
    have hI := (hI.alloc _).below hb
    have hJ := (hJ.alloc _).below hb
    have hX := (B.At.new w5 _ _ _ _).below hb
    have hB := B.al_stp hB hb
    clear hb
    obtain ⟨x0, x1, x2, x3, x4⟩ := (hX.alloc (.cells #[.int .u16 xc, .int .u8 xt, .int .u8 xf, .int .u32 xk] 25)).cells
    go_wp2_with fail
    refine (cU _ (HN.out.below (hB.out.trans ((B.al _ _).mono hB.out.size)))).mono ?_
    rintro e w7 ⟨rfl, hb⟩
    have hI := (hI.alloc _).below hb
    have hJ := (hJ.alloc _).below hb
    have hX := (hX.alloc _).below hb
    have hY := (B.At.new w6 _ _ _ _).below hb
    have hB := B.al_stp hB hb
    clear hb
    obtain ⟨a0, a1, a2, a3, a4⟩ := hI.cells
    obtain ⟨j0, j1, j2, j3, j4⟩ := hJ.cells
    obtain ⟨x0, x1, x2, x3, x4⟩ := hX.cells
    obtain ⟨y0, y1, y2, y3, y4⟩ := hY.cells
    go_wp2
    go_ret
    exact ⟨rfl, hB.out⟩

set_option maxHeartbeats 3200000 in
set_option maxRecDepth 1000000 in
theorem walk (c0 t0 f0 k0 : Int) (ok0 : M.okI (c0, t0, f0, k0)) (s1 : ByteArray) (hs1 : s1.size ≤ maxLen) (w : World) (hN : B.Nm w) :
    Calls Tryd.prog 3 #[.agg #[.int .u16 c0, .int .u8 t0, .int .u8 f0, .int .u32 k0], .string s1] w fun e w' => e = .returned (.bool true) ∧ Below w.heap.size w w' := by
  by_cases hlong : 100 < s1.size
  · exact long c0 t0 f0 k0 s1 w hN hlong
  · have hs : s1.size ≤ 100 := by omega
    obtain ⟨l, hl⟩ : ∃ l, l = s1.data.toList := ⟨_, rfl⟩
    have hT : (⟨(M.line (c0, t0, f0, k0)).1.toArray⟩ : ByteArray).size ≤ 1000000 := by rw [B.bar]; have := M.line_len (c0, t0, f0, k0); omega
    have hok : M.okI (M.pv (M.parse s1.data.toList)) := by
      cases e : M.parse s1.data.toList with
      | none => exact ⟨by simp [M.pv], by simp [M.pv], by simp [M.pv], by simp [M.pv]⟩
      | some i => exact (M.parse_line e).1
    refine body c0 t0 f0 k0 s1 hs _ _ _ _ _ _ _ _ _ _ _ _ _ _ _ (fun w hw => B.line_any c0 t0 f0 k0 ok0 w hw) (fun w => B.rline_any c0 t0 f0 k0 ok0 w) (fun w hw => B.parse_any _ hT w hw) (fun w hw => B.parse_any s1 (by omega) w hw) (fun w => B.rparse_any s1 (by omega) w) (fun w hw => B.line_any _ _ _ _ hok w hw) ?_ ?_ w hN
    · by_cases hz : (M.line (c0, t0, f0, k0)).2 = 0
      · right
        have e : M.parse (M.line (c0, t0, f0, k0)).1 = some (c0, t0, f0, k0) := M.line_parse ok0 (by rw [← hz])
        simp only
        rw [e]
        exact ⟨by rw [hz]; rfl, ⟨rfl, rfl, rfl, rfl⟩, rfl⟩
      · left
        simpa using hz
    · cases e : M.parse s1.data.toList with
      | none => exact Or.inr ⟨rfl, rfl⟩
      | some i =>
        left
        obtain ⟨_, h⟩ := M.parse_line e
        refine ⟨rfl, rfl, ?_, ?_⟩
        · show ((⟨(M.line i).1.toArray⟩ : ByteArray).toList == s1.toList) = true
          rw [h, ByteArray.toList_mk]; exact beq_self_eq_true _
        · show (M.line i).2 = 0
          rw [h]

set_option maxRecDepth 100000 in
theorem lifted (os : Os) (started : os.Started) (H : Type) (enc : TypeId × Value → H) :
    ReturnsInHanded {} Tryd.checked os 3 .any (fun w args => (Rows.asmLinesSpec.pre enc Tryd.prog Tryd.f3 [] false w args ∧ laidMetH Tryd.prog B.laidL w) ∧ sizedMet enc Tryd.prog Tryd.f3 (OpenSpec.ofChange Rows.asmLinesSpec) false w args)
      (Rows.asmLinesSpec.post enc Tryd.prog Tryd.f3 false true false false) := by
  refine returnsInHanded_of_change_and (C := Tryd.checked) (X := fun w _ => laidMetH Tryd.prog B.laidL w) (fun _ _ _ hh h => h.of_heap hh) own started (by kernel_rfl) Tryd.func3
    (ChangeSpec.witness_shaped (enc := enc) (C := Tryd.checked) (os := os) (X := fun w _ => laidMetH Tryd.prog B.laidL w) false (World.doorLaid Tryd.prog 400 os) #[.agg #[.int .u16 0, .int .u8 0, .int .u8 0, .int .u32 0], .string ByteArray.empty] 8 rfl (World.shaped_of_RefB (by kernel_rfl) (by kernel_rfl)) (by kernel_rfl) (by kernel_rfl) (by kernel_rfl) (B.door_met os _)) ?_
  intro W base args ds gs before hval0 hW _ _ hL _
  have hval : ∀ (j : Nat) t v, Tryd.f3.params[j]? = some t → args[j]? = some v → Value.okWide Tryd.prog W .any base t v := hval0
  have hW' := hW
  obtain ⟨p, q, hA0, hV, rfl, hfz, hnd⟩ := hW
  have hA : DataW.TrodAll enc Tryd.prog W 0 (fun _ => true) true Tryd.f3.params.toList args.toList ds p := hA0
  rw [Tryd.params3] at hA hval
  obtain ⟨v0, vs0, d0, ds0, p0, q0, hargs, rfl, rfl, h0, r0⟩ := trodAll_cons hA
  obtain ⟨v1, vs1, d1, ds1, p1, q1, rfl, rfl, rfl, h1, r1⟩ := trodAll_cons r0
  obtain ⟨rfl, rfl, rfl⟩ := trodAll_nil r1
  obtain rfl : args = #[v0, v1] := by cases args; simp_all
  obtain ⟨rfl, rfl⟩ := trodVars_none hV
  obtain ⟨c0, t0, f0, k0, rfl, hp0, ok0⟩ := B.arg_one (hval 0 25 v0 rfl rfl) h0
  obtain ⟨s1, rfl, hd1, hp1, hs1⟩ := Go.ChangeMaps.open_string Tryd.underlying9 (hval 1 9 v1 rfl rfl) h1
  clear hA0 hval0
  simp only [List.append_nil] at hW'
  have hlt0 : ∀ x ∈ p0, x.block < W.heap.size := fun x hx => by simpa using hW'.lt x (by simp [hx])
  have hlt1 : ∀ x ∈ p1, x.block < W.heap.size := fun x hx => by simpa using hW'.lt x (by simp [hx])
  refine (walk c0 t0 f0 k0 ok0 s1 hs1 W (B.of_laid hL) ).mono fun e W' ⟨he, hg⟩ => ?_
  subst he
  exact ⟨_, rfl, _, _, _, [], (p0 ++ (p1 ++ [])), [], hW', (trodAll_cons_mk (shut_bool Tryd.underlying4 _) trodAll_mk0), (trodAll_cons_mk (Below.trod laidOut (by kernel_rfl) (of_decide_eq_true (by kernel_rfl)) h0 hg hlt0) (trodAll_cons_mk (Below.trod laidOut (by kernel_rfl) (of_decide_eq_true (by kernel_rfl)) h1 hg hlt1) trodAll_mk0)), rfl, hg.frame _, fun h => by cases h⟩

theorem over : Rows.asmLinesRow.holds Tryd.pinned (OpenSpec.ofChange Rows.asmLinesSpec) :=
  OpenClaim.holds_of_wide 3 Tryd.f3 rfl rfl rfl rfl rfl rfl rfl ⟨rfl, rfl, rfl, rfl, rfl⟩ rfl rfl rfl rfl rfl (by kernel_rfl) Tryd.func3 (by kernel_rfl)
    (of_decide_eq_true (by kernel_rfl)) (by unfold Func.isWrapper; first | (rw [if_pos (by decide +kernel)]; kernel_rfl) | (rw [if_neg (by decide +kernel)]; exact ⟨rfl, rfl⟩))
    (fun os started H enc _ => lifted os started H enc)

theorem proved : Rows.AsmLinesCardSaid :=
  Claim7.holds_tied_plain_at .later [] [.data, .data, .data, .sentinel, .sentinel] true (true, "058f8c6c10db4b7d94f8f322adace66690a8fd2e27c19ca23c17c710e3ff2ac4") true
    over (fun _ h => by cases h) (by kernel_rfl) (fun _ h => by cases h) asmLines_row_tie rfl ⟨rfl, rfl⟩ (by kernel_rfl) rfl
    (fun f fn hf hfn => by
      obtain rfl : f = 3 := Option.some.inj ((show Tryd.prog.funcNamed "tamis/tamislaw05.AsmLines" = some 3 by kernel_rfl).symm.trans hf) |>.symm
      obtain rfl : fn = Tryd.f3 := (Option.some.inj (Tryd.func3.symm.trans hfn)).symm
      exact ⟨by kernel_rfl, fun j t ht => by
        rw [Tryd.params3] at ht
        have hm : t ∈ [25, 9] := by simpa using Array.mem_of_getElem? ht
        have hall : ([25, 9].all fun u => !Tryd.prog.wantsStandIn u) = true := by kernel_rfl
        exact (show Tryd.prog.wantsStandIn t = false by simpa using List.all_eq_true.1 hall t hm)⟩)
    (by kernel_rfl)
#print axioms proved
end Go.Proofs.YtapjjpjiggjlfaaDoor.asmLines
