/-
  For every text of at most 3000 bytes (of a longer one the statement asks nothing more): it is the program that the document says, or is refused where it says; printed it is the same text.
-/
import Derived.Test.YtapjjpjiggjlfaaDoorRows
import Derived.WalkKit
import Derived.ProofKit
import Derived.OpenShut
import Derived.Carry
import Derived.Test.YtapjjpjiggjlfaaDoorTie
import Derived.Test.YtapjjpjiggjlfaaDoorCards
import Derived.SevenTiedAt
import Derived.Test.YtapjjpjiggjlfaaDoorAsmAwake
namespace Go.Proofs.YtapjjpjiggjlfaaDoor.asmReads
open Go.ChangeShapes Go.WideShapes Go.ChangeAt Go.RowKit
set_option linter.unusedVariables false

theorem own : ownKnob Tryd.prog.godebug = none := by kernel_rfl
theorem laidOut : laidOutB Tryd.prog = true := by kernel_rfl
set_option maxHeartbeats 3200000 in
set_option maxRecDepth 1000000 in
theorem long (s : ByteArray) (w : World) (hN : B.Nm w) (h : 3000 < s.size) :
    Calls Tryd.prog 4 #[.string s] w fun e w' => e = .returned (.bool true) ∧ Below w.heap.size w w' := by
  have h1 : (3000 : Int) < s.size := by omega
  have HN := Lib.hid hN
  go_enter Tryd.func4, Tryd.ntmps4
  go_wp2_with fail
  refine (B.awake_any _ HN.out).mono ?_
  rintro e w1 ⟨rfl, hb⟩
  have hB := Lib.hid hb
  clear hb
  go_wp2_with fail
  refine (B.awake_any _ (HN.out.below hB.out)).mono ?_
  rintro e w2 ⟨rfl, hb⟩
  have hB := B.stp hB hb
  clear hb
  go_wp2
  go_ret
  exact ⟨rfl, hB.out⟩

set_option maxHeartbeats 3200000 in
set_option maxRecDepth 1000000 in
theorem none_ (s : ByteArray) (hs : s.size ≤ 3000) (q er : Int) (hz : (er != 0) = true)
    (cA : ∀ w, B.Nm w → Calls Tryd.prog 14 #[.string s] w fun e w' => e = .returned (.tuple #[.slice none 0 0, .int .i64 q, .int .i64 er]) ∧ Below w.heap.size w w')
    (cT : ∀ w, Calls Tryd.prog 15 #[.string s] w fun e w' => e = .returned (.tuple #[.slice none 0 0, .int .i64 q, .int .i64 er]) ∧ Below w.heap.size w w')
    (w : World) (hN : B.Nm w) :
    Calls Tryd.prog 4 #[.string s] w fun e w' => e = .returned (.bool true) ∧ Below w.heap.size w w' := by
  have i1 : ¬ (3000 : Int) < s.size := by omega
  have HN := Lib.hid hN
  clear hN hs
  go_enter Tryd.func4, Tryd.ntmps4
  go_wp2_with (first
    | (go_at_call 9; refine (B.awake_any _ HN.out).mono ?_; rintro e w1 ⟨rfl, hb⟩; have hB := Lib.hid hb; clear hb)
    | (go_at_call 14; refine (cA _ (HN.out.below hB.out)).mono ?_; rintro e w2 ⟨rfl, hb⟩; have hB := B.stp hB hb; clear hb)
    | (go_at_call 15; refine (cT _).mono ?_; rintro e w3 ⟨rfl, hb⟩; have hB := B.stp hB hb; clear hb)
    | (go_at_call 16; refine (B.rsame_len none none [] [] 0 0 0 0 _ rfl rfl (Or.inl rfl) (Or.inl rfl) (by omega) (by omega) true rfl).mono ?_; rintro e w4 ⟨rfl, n, rfl⟩; have hB := Lib.hid (below_drewN hB.out n))
    | (go_at_call 17; refine (B.aprint_none none 0 _).mono ?_; rintro e w5 ⟨rfl, hb⟩; have hB := B.stp hB hb; clear hb))
  go_ret
  exact ⟨rfl, hB.out⟩

set_option maxHeartbeats 3200000 in
set_option maxRecDepth 1000000 in
theorem some_ (s : ByteArray) (hs : s.size ≤ 3000) (m : List M.I) (ok : ∀ i ∈ m, M.okI i) (h0 : 0 < m.length) (h1 : m.length ≤ 4096) (hp : M.print m = (s.data.toList, 0))
    (cA : ∀ w, B.Nm w → Calls Tryd.prog 14 #[.string s] w fun e w' => ∃ g cap, e = .returned (.tuple #[.slice (some ⟨g, 0, none⟩) m.length cap, .int .i64 0, .int .i64 0]) ∧ B.Lies w' (some ⟨g, 0, none⟩) m ∧ Below w.heap.size w w')
    (cT : ∀ w, Calls Tryd.prog 15 #[.string s] w fun e w' => ∃ g cap, e = .returned (.tuple #[.slice (some ⟨g, 0, none⟩) m.length cap, .int .i64 0, .int .i64 0]) ∧ B.Lies w' (some ⟨g, 0, none⟩) m ∧ Below w.heap.size w w')
    (w : World) (hN : B.Nm w) :
    Calls Tryd.prog 4 #[.string s] w fun e w' => e = .returned (.bool true) ∧ Below w.heap.size w w' := by
  have i1 : ¬ (3000 : Int) < s.size := by omega
  have HN := Lib.hid hN
  obtain ⟨T, hT⟩ : ∃ T : ByteArray, T = s := ⟨_, rfl⟩
  have cP : ∀ g cap w, B.Lies w (some ⟨g, 0, none⟩) m → B.Nm w → Calls Tryd.prog 17 #[.slice (some ⟨g, 0, none⟩) m.length cap] w fun e w' => e = .returned (.tuple #[.string T, .int .i64 0]) ∧ Below w.heap.size w w' := by
    intro g cap w hl hw
    have := B.aprint_some (some ⟨g, 0, none⟩) m cap w hl ok h0 h1 hw
    rw [hp, show (⟨(s.data.toList, (0 : Int)).1.toArray⟩ : ByteArray) = T from by rw [hT]] at this
    exact this
  have ht : (T.toList == s.toList) = true := by rw [hT]; simp
  have HM := Lib.hid (And.intro h0 h1)
  clear hN hs hT hp ok h0 h1
  go_enter Tryd.func4, Tryd.ntmps4
  go_wp2_with (first
    | (go_at_call 9; refine (B.awake_any _ HN.out).mono ?_; rintro e w1 ⟨rfl, hb⟩; have hB := Lib.hid hb; clear hb)
    | (go_at_call 14; refine (cA _ (HN.out.below hB.out)).mono ?_; rintro e w2 ⟨g, cap, rfl, hl, hb⟩; have hB := B.stp hB hb; have HL := Lib.hid hl; clear hb hl)
    | (go_at_call 15; refine (cT _).mono ?_; rintro e w3 ⟨g2, cap2, rfl, hl, hb⟩; have hB := B.stp hB hb; have HL := Lib.hid (And.intro (HL.out.below hb) hl); clear hb hl)
    | (go_at_call 16; refine (B.rsame_len (some ⟨g, 0, none⟩) (some ⟨g2, 0, none⟩) m m _ _ _ _ _ rfl rfl HL.out.1 HL.out.2 (by have := HM.out; omega) (by have := HM.out; omega) true (by simp)).mono ?_; rintro e w4 ⟨rfl, n, rfl⟩; have hB := Lib.hid (below_drewN hB.out n); have HL := Lib.hid (HL.out.1.drewN n))
    | (go_at_call 17; refine (cP _ _ _ HL.out (HN.out.below hB.out)).mono ?_; rintro e w5 ⟨rfl, hb⟩; have hB := B.stp hB hb; clear hb))
  go_ret
  exact ⟨rfl, hB.out⟩

set_option maxHeartbeats 3200000 in
set_option maxRecDepth 1000000 in
theorem walk (s0 : ByteArray) (hs0 : s0.size ≤ maxLen) (w : World) (hN : B.Nm w) :
    Calls Tryd.prog 4 #[.string s0] w fun e w' => e = .returned (.bool true) ∧ Below w.heap.size w w' := by
  by_cases hlong : 3000 < s0.size
  · exact long s0 w hN hlong
  · have hs : s0.size ≤ 3000 := by omega
    have hsl := B.bdl s0
    by_cases h0 : s0.data.toList = []
    · have e : s0 = ⟨#[]⟩ := M.bytes_ext (by rw [h0])
      subst e
      exact none_ ⟨#[]⟩ hs 0 4 rfl (fun w hw => B.aread_empty w) (fun w => B.tread_empty w) w hN
    · have hc : s0.data.toList.count 10 ≤ 4096 := by
        have := List.count_le_length (a := (10 : UInt8)) (l := s0.data.toList)
        omega
      have cA := fun w hw => B.aread_rows s0 h0 (by omega) hc w hw
      have cT := fun w => B.tread_rows s0 h0 (by omega) hc w
      cases e : M.rows [] 0 s0.data.toList with
      | inl q =>
        rw [e] at cA cT
        exact none_ s0 hs q 3 rfl cA cT w hN
      | inr m =>
        rw [e] at cA cT
        obtain ⟨h1, h2, h3⟩ := M.rows_ok _ _ _ _ e
        rw [List.nil_append] at h1
        have hcount := M.txt_count h2
        rw [h1] at hcount
        have hm : m ≠ [] := by rintro rfl; exact h0 h1.symm
        have hpos := List.length_pos_iff.2 hm
        refine some_ s0 hs m h2 hpos (by omega) ?_ cA cT w hN
        unfold M.print
        rw [if_neg hm, if_neg (by omega), if_pos h3, h1]

set_option maxRecDepth 100000 in
theorem lifted (os : Os) (started : os.Started) (H : Type) (enc : TypeId × Value → H) :
    ReturnsInHanded {} Tryd.checked os 4 .any (fun w args => (Rows.asmReadsSpec.pre enc Tryd.prog Tryd.f4 [] false w args ∧ laidMetH Tryd.prog B.laidL w) ∧ sizedMet enc Tryd.prog Tryd.f4 (OpenSpec.ofChange Rows.asmReadsSpec) false w args)
      (Rows.asmReadsSpec.post enc Tryd.prog Tryd.f4 false true false false) := by
  refine returnsInHanded_of_change_and (C := Tryd.checked) (X := fun w _ => laidMetH Tryd.prog B.laidL w) (fun _ _ _ hh h => h.of_heap hh) own started (by kernel_rfl) Tryd.func4
    (ChangeSpec.witness_shaped (enc := enc) (C := Tryd.checked) (os := os) (X := fun w _ => laidMetH Tryd.prog B.laidL w) false (World.doorLaid Tryd.prog 400 os) #[.string ByteArray.empty] 8 rfl (World.shaped_of_RefB (by kernel_rfl) (by kernel_rfl)) (by kernel_rfl) (by kernel_rfl) (by kernel_rfl) (B.door_met os _)) ?_
  intro W base args ds gs before hval0 hW _ _ hL _
  have hval : ∀ (j : Nat) t v, Tryd.f4.params[j]? = some t → args[j]? = some v → Value.okWide Tryd.prog W .any base t v := hval0
  have hW' := hW
  obtain ⟨p, q, hA0, hV, rfl, hfz, hnd⟩ := hW
  have hA : DataW.TrodAll enc Tryd.prog W 0 (fun _ => true) true Tryd.f4.params.toList args.toList ds p := hA0
  rw [Tryd.params4] at hA hval
  obtain ⟨v0, vs0, d0, ds0, p0, q0, hargs, rfl, rfl, h0, r0⟩ := trodAll_cons hA
  obtain ⟨rfl, rfl, rfl⟩ := trodAll_nil r0
  obtain rfl : args = #[v0] := by cases args; simp_all
  obtain ⟨rfl, rfl⟩ := trodVars_none hV
  obtain ⟨s0, rfl, hd0, hp0, hs0⟩ := Go.ChangeMaps.open_string Tryd.underlying9 (hval 0 9 v0 rfl rfl) h0
  clear hA0 hval0
  simp only [List.append_nil] at hW'
  have hlt0 : ∀ x ∈ p0, x.block < W.heap.size := fun x hx => by simpa using hW'.lt x (by simp [hx])
  refine (walk s0 hs0 W (B.of_laid hL) ).mono fun e W' ⟨he, hg⟩ => ?_
  subst he
  exact ⟨_, rfl, _, _, _, [], (p0 ++ []), [], hW', (trodAll_cons_mk (shut_bool Tryd.underlying4 _) trodAll_mk0), (trodAll_cons_mk (Below.trod laidOut (by kernel_rfl) (of_decide_eq_true (by kernel_rfl)) h0 hg hlt0) trodAll_mk0), rfl, hg.frame _, fun h => by cases h⟩

theorem over : Rows.asmReadsRow.holds Tryd.pinned (OpenSpec.ofChange Rows.asmReadsSpec) :=
  OpenClaim.holds_of_wide 4 Tryd.f4 rfl rfl rfl rfl rfl rfl rfl ⟨rfl, rfl, rfl, rfl, rfl⟩ rfl rfl rfl rfl rfl (by kernel_rfl) Tryd.func4 (by kernel_rfl)
    (of_decide_eq_true (by kernel_rfl)) (by unfold Func.isWrapper; first | (rw [if_pos (by decide +kernel)]; kernel_rfl) | (rw [if_neg (by decide +kernel)]; exact ⟨rfl, rfl⟩))
    (fun os started H enc _ => lifted os started H enc)

theorem proved : Rows.AsmReadsCardSaid :=
  Claim7.holds_tied_plain_at .later [] [.data, .data, .data, .sentinel, .sentinel] true (true, "058f8c6c10db4b7d94f8f322adace66690a8fd2e27c19ca23c17c710e3ff2ac4") true
    over (fun _ h => by cases h) (by kernel_rfl) (fun _ h => by cases h) asmReads_row_tie rfl ⟨rfl, rfl⟩ (by kernel_rfl) rfl
    (fun f fn hf hfn => by
      obtain rfl : f = 4 := Option.some.inj ((show Tryd.prog.funcNamed "tamis/tamislaw05.AsmReads" = some 4 by kernel_rfl).symm.trans hf) |>.symm
      obtain rfl : fn = Tryd.f4 := (Option.some.inj (Tryd.func4.symm.trans hfn)).symm
      exact ⟨by kernel_rfl, fun j t ht => by
        rw [Tryd.params4] at ht
        have hm : t ∈ [9] := by simpa using Array.mem_of_getElem? ht
        have hall : ([9].all fun u => !Tryd.prog.wantsStandIn u) = true := by kernel_rfl
        exact (show Tryd.prog.wantsStandIn t = false by simpa using List.all_eq_true.1 hall t hm)⟩)
    (by kernel_rfl)
#print axioms proved
end Go.Proofs.YtapjjpjiggjlfaaDoor.asmReads
