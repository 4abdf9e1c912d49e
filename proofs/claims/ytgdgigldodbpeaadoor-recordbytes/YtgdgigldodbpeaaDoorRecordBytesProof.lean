/-
  For every record and every place, a word that is loaded is the four bytes at its place; no condition.
-/
import Derived.Test.YtgdgigldodbpeaaDoorRows
import Derived.WalkKit
import Derived.ProofKit
import Derived.OpenShut
import Derived.Carry
import Derived.Test.YtgdgigldodbpeaaDoorTie
import Derived.Test.YtgdgigldodbpeaaDoorCards
import Derived.SevenTiedAt
import Derived.Test.YtgdgigldodbpeaaDoorRecAwake
import Derived.Test.YtgdgigldodbpeaaDoorRecLaid
import Derived.Test.YtgdgigldodbpeaaDoorRecArgs
namespace Go.Proofs.YtgdgigldodbpeaaDoor.recordBytes
open Go.ChangeShapes Go.WideShapes Go.ChangeAt Go.RowKit
set_option linter.unusedVariables false

theorem own : ownKnob Tryd.prog.godebug = none := by kernel_rfl
theorem laidOut : laidOutB Tryd.prog = true := by kernel_rfl
theorem bad (l : List Int) (ok : M.okR l) (n : Int) (hn : 0 ≤ n ∧ n < 4294967296) (w : World) (hN : B.Nm w) (h : M.isL n = false) :
    Calls Tryd.prog 7 #[.agg (B.enc l), .int .u32 n] w fun e w' => e = .returned (.bool true) ∧ Below w.heap.size w w' := by
  have hX := B.lcf_eq
  have hld := (B.Rec.new w l ok.1).load
  have hv : M.load l n = 0 := by unfold M.load; rw [h]; rfl
  have HK : Hid (B.Nm (w.alloc (.cells (B.enc l) 24)) ∧ B.Rec (w.alloc (.cells (B.enc l) 24)) w.heap.size l ∧ Below w.heap.size w (w.alloc (.cells (B.enc l) 24))) := B.start3 hN ok
  have h' : ¬ (n < 64 ∧ n % 4 = 0) := of_decide_eq_false h
  have d : decide (64 ≤ n) = true ∨ (decide (64 ≤ n) = false ∧ (n % 4 != 0) = true) := by
    simp only [decide_eq_true_eq, decide_eq_false_iff_not, bne_iff_ne, ne_eq]; omega
  have hs : (M.str (M.pr l)).size = 64 := by rw [M.str_size, M.pr_len, ok.1]
  clear h' hN
  rcases d with d | ⟨d, d2⟩
  all_goals
    go_enter Tryd.func7, Tryd.ntmps7
    go_wp2_with fail
    refine (B.print_any l ok _).mono ?_
    rintro e w1 ⟨rfl, hB⟩
    have HK : Hid (B.Nm w1 ∧ B.Rec w1 w.heap.size l ∧ Below w.heap.size w w1) := B.step3 HK hB
    have hld := HK.out.2.1.load
    generalize M.str (M.pr l) = S at *
    clear hB
    go_wp2_with fail
    refine (B.load_any l ok _ hn _).mono ?_
    rintro e w2 ⟨rfl, hB⟩
    have HK : Hid (B.Nm w2 ∧ B.Rec w2 w.heap.size l ∧ Below w.heap.size w w2) := B.step3 HK hB
    clear hB
    go_wp2_with fail
    refine (B.awake_any _ HK.out.1).mono ?_
    rintro e w3 ⟨rfl, hB⟩
    have HK : Hid (B.Nm w3 ∧ B.Rec w3 w.heap.size l ∧ Below w.heap.size w w3) := B.step3 HK hB
    clear hB
    go_wp2
    go_ret
    exact ⟨rfl, HK.out.2.2⟩

set_option maxHeartbeats 1600000 in
set_option maxRecDepth 1000000 in
theorem good (l : List Int) (ok : M.okR l) (j : Nat) (hj : j < 16) (w : World) (hN : B.Nm w) :
    Calls Tryd.prog 7 #[.agg (B.enc l), .int .u32 (4 * (j : Int))] w fun e w' => e = .returned (.bool true) ∧ Below w.heap.size w w' := by
  have hX := B.lcf_eq
  have hld := (B.Rec.new w l ok.1).load
  have hL : M.isL (4 * (j : Int)) = true := decide_eq_true (by omega)
  have hv : M.load l (4 * (j : Int)) = M.at_ l j := by unfold M.load; rw [hL, show (4 * (j : Int) / 4).toNat = j by omega]; rfl
  have HK : Hid (B.Nm (w.alloc (.cells (B.enc l) 24)) ∧ B.Rec (w.alloc (.cells (B.enc l) 24)) w.heap.size l ∧ Below w.heap.size w (w.alloc (.cells (B.enc l) 24))) := B.start3 hN ok
  have d : decide (64 ≤ 4 * (j : Int)) = false := decide_eq_false (by omega)
  have d2 : (4 * (j : Int) % 4 != 0) = false := by rw [bne_eq_false_iff_eq]; omega
  have hs : (M.str (M.pr l)).size = 64 := by rw [M.str_size, M.pr_len, ok.1]
  have hr := M.rd_pr l ok j hj
  have x0 : ∀ W : World, (Instr.index 9 (.string (M.str (M.pr l))) (.int .i64 (4 * (j : Int)))).run Tryd.prog W = .ok (.int .u8 (M.byt (M.str (M.pr l)) (4 * j))) W := fun W => B.index_byte _ (4 * j) (by omega) W
  have x1 : ∀ W : World, (Instr.index 9 (.string (M.str (M.pr l))) (.int .i64 (4 * (j : Int) + 1))).run Tryd.prog W = .ok (.int .u8 (M.byt (M.str (M.pr l)) (4 * j + 1))) W := fun W => B.index_byte _ (4 * j + 1) (by omega) W
  have x2 : ∀ W : World, (Instr.index 9 (.string (M.str (M.pr l))) (.int .i64 (4 * (j : Int) + 2))).run Tryd.prog W = .ok (.int .u8 (M.byt (M.str (M.pr l)) (4 * j + 2))) W := fun W => B.index_byte _ (4 * j + 2) (by omega) W
  have x3 : ∀ W : World, (Instr.index 9 (.string (M.str (M.pr l))) (.int .i64 (4 * (j : Int) + 3))).run Tryd.prog W = .ok (.int .u8 (M.byt (M.str (M.pr l)) (4 * j + 3))) W := fun W => B.index_byte _ (4 * j + 3) (by omega) W
  have y0 := M.byt_bd (M.str (M.pr l)) (4 * j); have y1 := M.byt_bd (M.str (M.pr l)) (4 * j + 1); have y2 := M.byt_bd (M.str (M.pr l)) (4 * j + 2); have y3 := M.byt_bd (M.str (M.pr l)) (4 * j + 3)
  unfold M.rd at hr
  generalize M.byt (M.str (M.pr l)) (4 * j) = b0 at *
  generalize M.byt (M.str (M.pr l)) (4 * j + 1) = b1 at *
  generalize M.byt (M.str (M.pr l)) (4 * j + 2) = b2 at *
  generalize M.byt (M.str (M.pr l)) (4 * j + 3) = b3 at *
  rw [← hr] at hv
  have v0 : IntKind.u32.wrap b0 = b0 := by rw [IntKind.wrap_u32]; omega
  have v1 : IntKind.u32.wrap b1 = b1 := by rw [IntKind.wrap_u32]; omega
  have v2 : IntKind.u32.wrap b2 = b2 := by rw [IntKind.wrap_u32]; omega
  have v3 : IntKind.u32.wrap b3 = b3 := by rw [IntKind.wrap_u32]; omega
  have z1 : IntKind.u32.wrap (256 * b1) = 256 * b1 := by rw [IntKind.wrap_u32]; omega
  have z2 : IntKind.u32.wrap (65536 * b2) = 65536 * b2 := by rw [IntKind.wrap_u32]; omega
  have z3 : IntKind.u32.wrap (16777216 * b3) = 16777216 * b3 := by rw [IntKind.wrap_u32]; omega
  have s1 : IntKind.u32.wrap (b0 + 256 * b1) = b0 + 256 * b1 := by rw [IntKind.wrap_u32]; omega
  have s2 : IntKind.u32.wrap (b0 + 256 * b1 + 65536 * b2) = b0 + 256 * b1 + 65536 * b2 := by rw [IntKind.wrap_u32]; omega
  have s3 : IntKind.u32.wrap (b0 + 256 * b1 + 65536 * b2 + 16777216 * b3) = b0 + 256 * b1 + 65536 * b2 + 16777216 * b3 := by rw [IntKind.wrap_u32]; omega
  have a1 : IntKind.i64.wrap (4 * (j : Int) + 1) = 4 * (j : Int) + 1 := by rw [IntKind.wrap_i64]; omega
  have a2 : IntKind.i64.wrap (4 * (j : Int) + 2) = 4 * (j : Int) + 2 := by rw [IntKind.wrap_i64]; omega
  have a3 : IntKind.i64.wrap (4 * (j : Int) + 3) = 4 * (j : Int) + 3 := by rw [IntKind.wrap_i64]; omega
  have a0 : IntKind.i64.wrap (4 * (j : Int)) = 4 * (j : Int) := by rw [IntKind.wrap_i64]; omega
  have HJ : Hid (0 ≤ 4 * (j : Int) ∧ 4 * (j : Int) < 4294967296) := by show _ ∧ _; omega
  clear hN hr y0 y1 y2 y3 hj
  go_enter Tryd.func7, Tryd.ntmps7
  go_wp2_with fail
  refine (B.print_any l ok _).mono ?_
  rintro e w1 ⟨rfl, hB⟩
  have HK : Hid (B.Nm w1 ∧ B.Rec w1 w.heap.size l ∧ Below w.heap.size w w1) := B.step3 HK hB
  have hld := HK.out.2.1.load
  generalize M.str (M.pr l) = S at *
  clear hB
  go_wp2_with fail
  refine (B.load_any l ok _ HJ.out _).mono ?_
  rintro e w2 ⟨rfl, hB⟩
  have HK : Hid (B.Nm w2 ∧ B.Rec w2 w.heap.size l ∧ Below w.heap.size w w2) := B.step3 HK hB
  clear hB
  go_wp2_with fail
  refine (B.awake_any _ HK.out.1).mono ?_
  rintro e w3 ⟨rfl, hB⟩
  have HK : Hid (B.Nm w3 ∧ B.Rec w3 w.heap.size l ∧ Below w.heap.size w w3) := B.step3 HK hB
  clear hB
  go_wp2_with fail
  refine wp_region_still_tail 30 (by kernel_rfl) (by kernel_rfl) ?_
  change wpStill _ _ (World.drew w3) (fun a' => wpList _ _ _ _ a' (World.drew w3)) _ _
  simp only [List.take_succ_cons, List.take_zero, List.drop_succ_cons, List.drop_zero]
  repeat still_step
  refine wpStill_nil ?_
  go_wp2
  go_ret
  exact ⟨rfl, HK.out.2.2.drew⟩


set_option maxHeartbeats 3200000 in
set_option maxRecDepth 1000000 in
theorem walk (l0 : List Int) (ok0 : M.okR l0) (n1 : Int) (wf1 : (Lit.int .u32 n1).wf = true) (w : World) (hN : B.Nm w) :
    Calls Tryd.prog 7 #[.agg (B.enc l0), .int .u32 n1] w fun e w' => e = .returned (.bool true) ∧ Below w.heap.size w w' := by
  have hn := bounds_u32 wf1
  rcases h : M.isL n1 with _ | _
  · exact bad l0 ok0 n1 (by omega) w hN h
  · have h' := of_decide_eq_true (show decide (n1 < 64 ∧ n1 % 4 = 0) = true from h)
    obtain ⟨j, rfl⟩ : ∃ j : Nat, n1 = 4 * (j : Int) := ⟨(n1 / 4).toNat, by omega⟩
    exact good l0 ok0 j (by omega) w hN

set_option maxRecDepth 100000 in
theorem lifted (os : Os) (started : os.Started) (H : Type) (enc : TypeId × Value → H) :
    ReturnsInHanded {} Tryd.checked os 7 .any (fun w args => (Rows.recordBytesSpec.pre enc Tryd.prog Tryd.f7 [] false w args ∧ laidMetH Tryd.prog B.laidL w) ∧ sizedMet enc Tryd.prog Tryd.f7 (OpenSpec.ofChange Rows.recordBytesSpec) false w args)
      (Rows.recordBytesSpec.post enc Tryd.prog Tryd.f7 false true false false) := by
  refine returnsInHanded_of_change_and (C := Tryd.checked) (X := fun w _ => laidMetH Tryd.prog B.laidL w) (fun _ _ _ hh h => h.of_heap hh) own started (by kernel_rfl) Tryd.func7
    (ChangeSpec.witness_shaped (enc := enc) (C := Tryd.checked) (os := os) (X := fun w _ => laidMetH Tryd.prog B.laidL w) false (World.doorLaid Tryd.prog 400 os) #[.agg #[.int .u32 0, .int .u32 0, .int .u32 0, .int .u32 0, .int .u32 0, .int .u32 0, .int .u32 0, .int .u32 0, .int .u32 0, .int .u32 0, .int .u32 0, .int .u32 0, .int .u32 0, .int .u32 0, .int .u32 0, .int .u32 0], .int .u32 0] 8 rfl (World.shaped_of_RefB (by kernel_rfl) (by kernel_rfl)) (by kernel_rfl) (by kernel_rfl) (by kernel_rfl) (B.door_met os _)) ?_
  intro W base args ds gs before hval0 hW _ _ hL _
  have hval : ∀ (j : Nat) t v, Tryd.f7.params[j]? = some t → args[j]? = some v → Value.okWide Tryd.prog W .any base t v := hval0
  have hW' := hW
  obtain ⟨p, q, hA0, hV, rfl, hfz, hnd⟩ := hW
  have hA : DataW.TrodAll enc Tryd.prog W 0 (fun _ => true) true Tryd.f7.params.toList args.toList ds p := hA0
  rw [Tryd.params7] at hA hval
  obtain ⟨v0, vs0, d0, ds0, p0, q0, hargs, rfl, rfl, h0, r0⟩ := trodAll_cons hA
  obtain ⟨v1, vs1, d1, ds1, p1, q1, rfl, rfl, rfl, h1, r1⟩ := trodAll_cons r0
  obtain ⟨rfl, rfl, rfl⟩ := trodAll_nil r1
  obtain rfl : args = #[v0, v1] := by cases args; simp_all
  obtain ⟨rfl, rfl⟩ := trodVars_none hV
  obtain ⟨l0, rfl, hp0, ok0⟩ := B.arg_rec (hval 0 24 v0 rfl rfl) h0
  obtain ⟨n1, rfl, hd1, hp1, wf1⟩ := open_int Tryd.underlying22 (hval 1 22 v1 rfl rfl) h1
  clear hA0 hval0
  simp only [List.append_nil] at hW'
  have hlt0 : ∀ x ∈ p0, x.block < W.heap.size := fun x hx => by simpa using hW'.lt x (by simp [hx])
  have hlt1 : ∀ x ∈ p1, x.block < W.heap.size := fun x hx => by simpa using hW'.lt x (by simp [hx])
  refine (walk l0 ok0 n1 wf1 W (B.of_laid hL) ).mono fun e W' ⟨he, hg⟩ => ?_
  subst he
  exact ⟨_, rfl, _, _, _, [], (p0 ++ (p1 ++ [])), [], hW', (trodAll_cons_mk (shut_bool Tryd.underlying4 _) trodAll_mk0), (trodAll_cons_mk (Below.trod laidOut (by kernel_rfl) (of_decide_eq_true (by kernel_rfl)) h0 hg hlt0) (trodAll_cons_mk (Below.trod laidOut (by kernel_rfl) (of_decide_eq_true (by kernel_rfl)) h1 hg hlt1) trodAll_mk0)), rfl, hg.frame _, fun h => by cases h⟩

theorem over : Rows.recordBytesRow.holds Tryd.pinned (OpenSpec.ofChange Rows.recordBytesSpec) :=
  OpenClaim.holds_of_wide 7 Tryd.f7 rfl rfl rfl rfl rfl rfl rfl ⟨rfl, rfl, rfl, rfl, rfl⟩ rfl rfl rfl rfl rfl (by kernel_rfl) Tryd.func7 (by kernel_rfl)
    (of_decide_eq_true (by kernel_rfl)) (by unfold Func.isWrapper; first | (rw [if_pos (by decide +kernel)]; kernel_rfl) | (rw [if_neg (by decide +kernel)]; exact ⟨rfl, rfl⟩))
    (fun os started H enc _ => lifted os started H enc)

theorem proved : Rows.RecordBytesCardSaid :=
  Claim7.holds_tied_plain_at .later [] [.data] true (true, "09afddfe84cc98cca8d139d8bdbb4c0819ebacbcdf3cf43e811ae0c1d9354eb8") false
    over (fun _ h => by cases h) (by kernel_rfl) (fun _ h => by cases h) recordBytes_row_tie rfl ⟨rfl, rfl⟩ (by kernel_rfl) rfl
    (fun f fn hf hfn => by
      obtain rfl : f = 7 := Option.some.inj ((show Tryd.prog.funcNamed "tamis/tamislaw03.RecordBytes" = some 7 by kernel_rfl).symm.trans hf) |>.symm
      obtain rfl : fn = Tryd.f7 := (Option.some.inj (Tryd.func7.symm.trans hfn)).symm
      exact ⟨by kernel_rfl, fun j t ht => by
        rw [Tryd.params7] at ht
        have hm : t ∈ [24, 22] := by simpa using Array.mem_of_getElem? ht
        have hall : ([24, 22].all fun u => !Tryd.prog.wantsStandIn u) = true := by kernel_rfl
        exact (show Tryd.prog.wantsStandIn t = false by simpa using List.all_eq_true.1 hall t hm)⟩)
    (by kernel_rfl)
#print axioms proved
end Go.Proofs.YtgdgigldodbpeaaDoor.recordBytes
