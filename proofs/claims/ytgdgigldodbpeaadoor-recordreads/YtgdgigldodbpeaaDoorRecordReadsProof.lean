/-
  For every text and every record, the text is the record that the document says, or is refused; the record is read as it was; no condition.
-/
import Derived.Test.YtgdgigldodbpeaaDoorRows
import Derived.WalkKit
import Derived.ProofKit
import Derived.OpenShut
import Derived.Carry
import Derived.Test.YtgdgigldodbpeaaDoorTie
import Derived.Test.YtgdgigldodbpeaaDoorCards
import Derived.SevenTiedAt
import Derived.Test.YtgdgigldodbpeaaDoorRecAwake
import Derived.Test.YtgdgigldodbpeaaDoorRecRefRead
import Derived.Test.YtgdgigldodbpeaaDoorRecLaid
import Derived.Test.YtgdgigldodbpeaaDoorRecArgs
namespace Go.Proofs.YtgdgigldodbpeaaDoor.recordReads
open Go.ChangeShapes Go.WideShapes Go.ChangeAt Go.RowKit
set_option linter.unusedVariables false

theorem own : ownKnob Tryd.prog.godebug = none := by kernel_rfl
theorem laidOut : laidOutB Tryd.prog = true := by kernel_rfl
set_option maxHeartbeats 1600000 in
set_option maxRecDepth 1000000 in
theorem long_ (s : ByteArray) (l : List Int) (ok : M.okR l) (w : World) (hN : B.Nm w) (h : 200 < s.size) (hm : s.size ≤ maxLen) :
    Calls Tryd.prog 5 #[.string s, .agg (B.enc l)] w fun e w' => e = .returned (.bool true) ∧ Below w.heap.size w w' := by
  have d : decide (200 < (s.size : Int)) = true := decide_eq_true (by omega)
  have HK : Hid (B.Nm (w.alloc (.cells (B.enc l) 24)) ∧ B.Rec (w.alloc (.cells (B.enc l) 24)) w.heap.size l ∧ Below w.heap.size w (w.alloc (.cells (B.enc l) 24))) := B.start3 hN ok
  clear h hN hm
  go_enter Tryd.func5, Tryd.ntmps5
  go_wp2_with fail
  refine (B.awake_any _ HK.out.1).mono ?_
  rintro e w1 ⟨rfl, hB⟩
  have HK : Hid (B.Nm w1 ∧ B.Rec w1 w.heap.size l ∧ Below w.heap.size w w1) := B.step3 HK hB
  clear hB
  go_wp2_with fail
  refine (B.awake_any _ HK.out.1).mono ?_
  rintro e w2 ⟨rfl, hB⟩
  have HK : Hid (B.Nm w2 ∧ B.Rec w2 w.heap.size l ∧ Below w.heap.size w w2) := B.step3 HK hB
  clear hB
  go_wp2
  go_ret
  exact ⟨rfl, HK.out.2.2⟩

set_option maxHeartbeats 3200000 in
set_option maxRecDepth 1000000 in
theorem core (s : ByteArray) (l q : List Int) (ok : M.okR l) (okq : M.okR q) (ev : Int) (w : World) (hN : B.Nm w) (d : decide (200 < (s.size : Int)) = false)
    (hr : Hid (∀ w : World, Calls Tryd.prog 22 #[.string s] w fun e w' => e = .returned (.tuple #[.agg (B.enc q), .int .i64 ev]) ∧ Below w.heap.size w w'))
    (hr2 : Hid (∀ w : World, Calls Tryd.prog 23 #[.string s] w fun e w' => e = .returned (.tuple #[.agg (B.enc q), .int .i64 ev]) ∧ Below w.heap.size w w'))
    (hc : (ev != 0) = true ∨ ((ev != 0) = false ∧ M.str (M.pr q) = s)) :
    Calls Tryd.prog 5 #[.string s, .agg (B.enc l)] w fun e w' => e = .returned (.bool true) ∧ Below w.heap.size w w' := by
  have HK : Hid (B.Nm (w.alloc (.cells (B.enc l) 24)) ∧ B.Rec (w.alloc (.cells (B.enc l) 24)) w.heap.size l ∧ Below w.heap.size w (w.alloc (.cells (B.enc l) 24))) := B.start3 hN ok
  have hX := B.lcf_eq
  have hz := B.zero_lit
  have hsq : (B.enc q).size = 16 := B.enc_size okq.1
  have hsl : (B.enc l).size = 16 := B.enc_size ok.1
  have hg := B.guard24
  have he1 : ∀ W, (binOp .eql 24 (.agg (B.enc q)) (.agg (B.enc q))).run Tryd.prog W = .ok (.bool true) W := fun W => by rw [B.eql24 q q okq.1 okq.1 W]; simp
  have he2 : ∀ W, (binOp .eql 24 (.agg (B.enc l)) (.agg (B.enc l))).run Tryd.prog W = .ok (.bool true) W := fun W => by rw [B.eql24 l l ok.1 ok.1 W]; simp
  have HS : Hid (M.rdr (M.str (M.pr l)) = l ∧ (M.str (M.pr l)).size = 64) := ⟨M.rdr_pr l ok, by rw [M.str_size, M.pr_len, ok.1]⟩
  clear hN
  go_enter Tryd.func5, Tryd.ntmps5
  go_wp2_with fail
  refine (B.awake_any _ HK.out.1).mono ?_
  rintro e w1 ⟨rfl, hB⟩
  have HK : Hid (B.Nm w1 ∧ B.Rec w1 w.heap.size l ∧ Below w.heap.size w w1) := B.step3 HK hB
  clear hB
  go_wp2_with fail
  refine (hr.out _).mono ?_
  rintro e w2 ⟨rfl, hB⟩
  have HK : Hid (B.Nm w2 ∧ B.Rec w2 w.heap.size l ∧ Below w.heap.size w w2) := B.step3 HK hB
  obtain ⟨w3, hst3, hQ, _, _, hb3⟩ := B.new_rec w2 q okq.1
  have HK : Hid (B.Nm w3 ∧ B.Rec w3 w.heap.size l ∧ Below w.heap.size w w3) := B.step3 HK hb3
  have HQ : Hid (B.Rec w3 w2.heap.size q) := hQ
  clear hB hQ hb3
  go_wp2_with fail
  refine (hr2.out _).mono ?_
  rintro e w4 ⟨rfl, hB⟩
  have HK : Hid (B.Nm w4 ∧ B.Rec w4 w.heap.size l ∧ Below w.heap.size w w4) := B.step3 HK hB
  have HQ : Hid (B.Rec w4 w2.heap.size q) := HQ.out.below hB HQ.out.lt
  obtain ⟨w5, hst5, hV, _, _, hb5⟩ := B.new_rec w4 q okq.1
  have HK : Hid (B.Nm w5 ∧ B.Rec w5 w.heap.size l ∧ Below w.heap.size w w5) := B.step3 HK hb5
  have HQ : Hid (B.Rec w5 w2.heap.size q) := HQ.out.below hb5 HQ.out.lt
  have HV : Hid (B.Rec w5 w4.heap.size q) := hV
  have hld := HK.out.2.1.load
  clear hB hV hb5 hst3
  go_wp2_with fail
  refine (B.print_any l ok _).mono ?_
  rintro e w6 ⟨rfl, hB⟩
  have HK : Hid (B.Nm w6 ∧ B.Rec w6 w.heap.size l ∧ Below w.heap.size w w6) := B.step3 HK hB
  have HQ : Hid (B.Rec w6 w2.heap.size q) := HQ.out.below hB HQ.out.lt
  have HV : Hid (B.Rec w6 w4.heap.size q) := HV.out.below hB HV.out.lt
  have HP : Hid (∀ w : World, Calls Tryd.prog 25 #[.agg (B.enc l)] w fun e w' => e = .returned (.string (M.str (M.pr l))) ∧ Below w.heap.size w w') := fun w => B.rprint_any l ok w
  obtain ⟨S, hS⟩ : ∃ S, M.str (M.pr l) = S := ⟨_, rfl⟩
  rw [hS] at HS HP ⊢
  have v1 := HS.out.1
  clear hB hst5 hS
  go_wp2_with fail
  refine (B.read_any S _ HS.out.2).mono ?_
  rintro e w7 ⟨rfl, hB⟩
  have HK : Hid (B.Nm w7 ∧ B.Rec w7 w.heap.size l ∧ Below w.heap.size w w7) := B.step3 HK hB
  have HQ : Hid (B.Rec w7 w2.heap.size q) := HQ.out.below hB HQ.out.lt
  have HV : Hid (B.Rec w7 w4.heap.size q) := HV.out.below hB HV.out.lt
  obtain ⟨w8, hst8, hD, _, _, hb8⟩ := B.new_rec w7 l ok.1
  have HK : Hid (B.Nm w8 ∧ B.Rec w8 w.heap.size l ∧ Below w.heap.size w w8) := B.step3 HK hb8
  have HQ : Hid (B.Rec w8 w2.heap.size q) := HQ.out.below hb8 HQ.out.lt
  have HV : Hid (B.Rec w8 w4.heap.size q) := HV.out.below hb8 HV.out.lt
  have HD : Hid (B.Rec w8 w7.heap.size l) := hD
  have hld := HK.out.2.1.load
  have hlq := HQ.out.load
  have hlv := HV.out.load
  have hldd := HD.out.load
  clear hB hD hb8
  go_wp2_with fail
  refine (HP.out _).mono ?_
  rintro e w9 ⟨rfl, hB⟩
  have HK : Hid (B.Nm w9 ∧ B.Rec w9 w.heap.size l ∧ Below w.heap.size w w9) := B.step3 HK hB
  have HQ : Hid (B.Rec w9 w2.heap.size q) := HQ.out.below hB HQ.out.lt
  have HD : Hid (B.Rec w9 w7.heap.size l) := HD.out.below hB HD.out.lt
  have hld := HK.out.2.1.load
  have hlq := HQ.out.load
  have hldd := HD.out.load
  clear hB
  rcases hc with hc | ⟨hc, hc2⟩
  · go_wp2
    go_ret
    exact ⟨rfl, HK.out.2.2⟩
  · have HC : Hid (M.str (M.pr q) = s) := hc2
    clear hc2
    go_wp2_with fail
    refine (B.print_any q okq _).mono ?_
    rintro e w10 ⟨rfl, hB⟩
    have HK : Hid (B.Nm w10 ∧ B.Rec w10 w.heap.size l ∧ Below w.heap.size w w10) := B.step3 HK hB
    have hc3 := HC.out
    clear hB
    go_wp2
    go_ret
    exact ⟨rfl, HK.out.2.2⟩


set_option maxHeartbeats 3200000 in
set_option maxRecDepth 1000000 in
theorem walk (s0 : ByteArray) (hs0 : s0.size ≤ maxLen) (l1 : List Int) (ok1 : M.okR l1) (w : World) (hN : B.Nm w) :
    Calls Tryd.prog 5 #[.string s0, .agg (B.enc l1)] w fun e w' => e = .returned (.bool true) ∧ Below w.heap.size w w' := by
  by_cases h : 200 < s0.size
  · exact long_ s0 l1 ok1 w hN h hs0
  · have d : decide (200 < (s0.size : Int)) = false := decide_eq_false (by omega)
    rcases Nat.lt_trichotomy s0.size 64 with h1 | h1 | h1
    · exact core s0 l1 M.zero ok1 M.ok_zero 4 w hN d (fun w => B.read_short s0 w h1) (fun w => B.rread_short s0 w h1) (.inl rfl)
    · exact core s0 l1 (M.rdr s0) ok1 (M.ok_rdr s0) 0 w hN d (fun w => B.read_any s0 w h1) (fun w => B.rread_any s0 w h1) (.inr ⟨rfl, M.pr_rdr s0 h1⟩)
    · exact core s0 l1 M.zero ok1 M.ok_zero 5 w hN d (fun w => B.read_long s0 w h1) (fun w => B.rread_long s0 w h1) (.inl rfl)

set_option maxRecDepth 100000 in
theorem lifted (os : Os) (started : os.Started) (H : Type) (enc : TypeId × Value → H) :
    ReturnsInHanded {} Tryd.checked os 5 .any (fun w args => (Rows.recordReadsSpec.pre enc Tryd.prog Tryd.f5 [] false w args ∧ laidMetH Tryd.prog B.laidL w) ∧ sizedMet enc Tryd.prog Tryd.f5 (OpenSpec.ofChange Rows.recordReadsSpec) false w args)
      (Rows.recordReadsSpec.post enc Tryd.prog Tryd.f5 false true false false) := by
  refine returnsInHanded_of_change_and (C := Tryd.checked) (X := fun w _ => laidMetH Tryd.prog B.laidL w) (fun _ _ _ hh h => h.of_heap hh) own started (by kernel_rfl) Tryd.func5
    (ChangeSpec.witness_shaped (enc := enc) (C := Tryd.checked) (os := os) (X := fun w _ => laidMetH Tryd.prog B.laidL w) false (World.doorLaid Tryd.prog 400 os) #[.string ByteArray.empty, .agg #[.int .u32 0, .int .u32 0, .int .u32 0, .int .u32 0, .int .u32 0, .int .u32 0, .int .u32 0, .int .u32 0, .int .u32 0, .int .u32 0, .int .u32 0, .int .u32 0, .int .u32 0, .int .u32 0, .int .u32 0, .int .u32 0]] 8 rfl (World.shaped_of_RefB (by kernel_rfl) (by kernel_rfl)) (by kernel_rfl) (by kernel_rfl) (by kernel_rfl) (B.door_met os _)) ?_
  intro W base args ds gs before hval0 hW _ _ hL _
  have hval : ∀ (j : Nat) t v, Tryd.f5.params[j]? = some t → args[j]? = some v → Value.okWide Tryd.prog W .any base t v := hval0
  have hW' := hW
  obtain ⟨p, q, hA0, hV, rfl, hfz, hnd⟩ := hW
  have hA : DataW.TrodAll enc Tryd.prog W 0 (fun _ => true) true Tryd.f5.params.toList args.toList ds p := hA0
  rw [Tryd.params5] at hA hval
  obtain ⟨v0, vs0, d0, ds0, p0, q0, hargs, rfl, rfl, h0, r0⟩ := trodAll_cons hA
  obtain ⟨v1, vs1, d1, ds1, p1, q1, rfl, rfl, rfl, h1, r1⟩ := trodAll_cons r0
  obtain ⟨rfl, rfl, rfl⟩ := trodAll_nil r1
  obtain rfl : args = #[v0, v1] := by cases args; simp_all
  obtain ⟨rfl, rfl⟩ := trodVars_none hV
  obtain ⟨s0, rfl, hd0, hp0, hs0⟩ := Go.ChangeMaps.open_string Tryd.underlying9 (hval 0 9 v0 rfl rfl) h0
  obtain ⟨l1, rfl, hp1, ok1⟩ := B.arg_rec (hval 1 24 v1 rfl rfl) h1
  clear hA0 hval0
  simp only [List.append_nil] at hW'
  have hlt0 : ∀ x ∈ p0, x.block < W.heap.size := fun x hx => by simpa using hW'.lt x (by simp [hx])
  have hlt1 : ∀ x ∈ p1, x.block < W.heap.size := fun x hx => by simpa using hW'.lt x (by simp [hx])
  refine (walk s0 hs0 l1 ok1 W (B.of_laid hL) ).mono fun e W' ⟨he, hg⟩ => ?_
  subst he
  exact ⟨_, rfl, _, _, _, [], (p0 ++ (p1 ++ [])), [], hW', (trodAll_cons_mk (shut_bool Tryd.underlying4 _) trodAll_mk0), (trodAll_cons_mk (Below.trod laidOut (by kernel_rfl) (of_decide_eq_true (by kernel_rfl)) h0 hg hlt0) (trodAll_cons_mk (Below.trod laidOut (by kernel_rfl) (of_decide_eq_true (by kernel_rfl)) h1 hg hlt1) trodAll_mk0)), rfl, hg.frame _, fun h => by cases h⟩

theorem over : Rows.recordReadsRow.holds Tryd.pinned (OpenSpec.ofChange Rows.recordReadsSpec) :=
  OpenClaim.holds_of_wide 5 Tryd.f5 rfl rfl rfl rfl rfl rfl rfl ⟨rfl, rfl, rfl, rfl, rfl⟩ rfl rfl rfl rfl rfl (by kernel_rfl) Tryd.func5 (by kernel_rfl)
    (of_decide_eq_true (by kernel_rfl)) (by unfold Func.isWrapper; first | (rw [if_pos (by decide +kernel)]; kernel_rfl) | (rw [if_neg (by decide +kernel)]; exact ⟨rfl, rfl⟩))
    (fun os started H enc _ => lifted os started H enc)

theorem proved : Rows.RecordReadsCardSaid :=
  Claim7.holds_tied_plain_at .later [] [.data] true (true, "09afddfe84cc98cca8d139d8bdbb4c0819ebacbcdf3cf43e811ae0c1d9354eb8") false
    over (fun _ h => by cases h) (by kernel_rfl) (fun _ h => by cases h) recordReads_row_tie rfl ⟨rfl, rfl⟩ (by kernel_rfl) rfl
    (fun f fn hf hfn => by
      obtain rfl : f = 5 := Option.some.inj ((show Tryd.prog.funcNamed "tamis/tamislaw03.RecordReads" = some 5 by kernel_rfl).symm.trans hf) |>.symm
      obtain rfl : fn = Tryd.f5 := (Option.some.inj (Tryd.func5.symm.trans hfn)).symm
      exact ⟨by kernel_rfl, fun j t ht => by
        rw [Tryd.params5] at ht
        have hm : t ∈ [9, 24] := by simpa using Array.mem_of_getElem? ht
        have hall : ([9, 24].all fun u => !Tryd.prog.wantsStandIn u) = true := by kernel_rfl
        exact (show Tryd.prog.wantsStandIn t = false by simpa using List.all_eq_true.1 hall t hm)⟩)
    (by kernel_rfl)
#print axioms proved
end Go.Proofs.YtgdgigldodbpeaaDoor.recordReads
