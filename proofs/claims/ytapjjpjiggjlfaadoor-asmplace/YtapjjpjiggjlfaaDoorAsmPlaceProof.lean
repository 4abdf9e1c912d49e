/-
  For every program of at most 50 instructions, every text of at most 50 bytes and every one of at most 100 (of longer ones the statement asks nothing more): what stands ahead of a line that is none's is read, and the place is that line's, whatever follows.
-/
import Derived.Test.YtapjjpjiggjlfaaDoorRows
import Derived.WalkKit
import Derived.ProofKit
import Derived.OpenShut
import Derived.Carry
import Derived.Test.YtapjjpjiggjlfaaDoorTie
import Derived.Test.YtapjjpjiggjlfaaDoorCards
import Derived.SevenTiedAt
import Derived.Test.YtapjjpjiggjlfaaDoorAsmAwake
namespace Go.Proofs.YtapjjpjiggjlfaaDoor.asmPlace
open Go.ChangeShapes Go.WideShapes Go.ChangeAt Go.RowKit
set_option linter.unusedVariables false

theorem own : ownKnob Tryd.prog.godebug = none := by kernel_rfl
theorem laidOut : laidOutB Tryd.prog = true := by kernel_rfl
set_option maxHeartbeats 3200000 in
set_option maxRecDepth 1000000 in
theorem skip_ (a : Option Addr) (nl cap : Nat) (s t : ByteArray) (w : World) (hN : B.Nm w) (hnl : nl ≤ 9223372036854775807) (h : 50 < nl ∨ 50 < s.size ∨ 100 < t.size) :
    Calls Tryd.prog 6 #[.slice a nl cap, .string s, .string t] w fun e w' => e = .returned (.bool true) ∧ Below w.heap.size w w' := by
  have HN := Lib.hid hN
  have hc : decide ((50 : Int) < nl) = true ∨ (decide ((50 : Int) < nl) = false ∧ decide ((50 : Int) < s.size) = true) ∨ (decide ((50 : Int) < nl) = false ∧ decide ((50 : Int) < s.size) = false ∧ decide ((100 : Int) < t.size) = true) := by
    simp only [decide_eq_true_eq, decide_eq_false_iff_not]; omega
  clear h hN hnl
  rcases hc with c1 | ⟨c1, c2⟩ | ⟨c1, c2, c3⟩
  all_goals
    go_enter Tryd.func6, Tryd.ntmps6
    go_wp2_with fail
    refine (B.awake_any _ HN.out).mono ?_
    rintro e w1 ⟨rfl, hb⟩
    have hB := Lib.hid hb
    clear hb
    go_wp2_with fail
    refine (B.awake_any _ (HN.out.below hB.out)).mono ?_
    rintro e w2 ⟨rfl, hb⟩
    have hB := B.stp hB hb
    clear hb
    go_wp2
    go_ret
    exact ⟨rfl, hB.out⟩

theorem rows_bad {l : List M.I} (ok : ∀ i ∈ l, M.okI i) (hb : M.bad l = 0) {s : List UInt8} (hs : ∀ b ∈ s, b ≠ 10) (hp : M.parse s = none) (t : List UInt8) : M.rows [] 0 (M.txt l ++ (s ++ 10 :: t)) = .inl (M.txt l).length := by
  rw [M.rows_txt l ok hb, M.rows_line hs, hp]
  simp [M.moreL]

set_option maxHeartbeats 6400000 in
set_option maxRecDepth 1000000 in
theorem main_ (a : Option Addr) (cap : Nat) (l : List M.I) (s t : ByteArray) (w : World) (hN : B.Nm w) (h1 : l.length ≤ 50) (h2 : s.size ≤ 50) (h3 : t.size ≤ 100) (hl : B.Lies w a l) (ok : ∀ i ∈ l, M.okI i) :
    Calls Tryd.prog 6 #[.slice a l.length cap, .string s, .string t] w fun e w' => e = .returned (.bool true) ∧ Below w.heap.size w w' := by
  have c1 : ¬ (50 : Int) < l.length := by omega
  have c2 : ¬ (50 : Int) < s.size := by omega
  have c3 : ¬ (100 : Int) < t.size := by omega
  obtain ⟨d, hd⟩ : ∃ d, d = s.data.toList := ⟨_, rfl⟩
  have hdl : s.size = d.length := by rw [hd]; exact B.bdl s
  have hat : ∀ k (h : k < d.length), M.at_ s k = (d[k].toNat : Int) := by
    intro k h
    unfold M.at_
    rw [← hd, List.getD_eq_getElem?_getD, List.getElem?_eq_getElem h]
    rfl
  have cQ := fun w => B.rparse_any s (by omega) w
  rw [← hd] at cQ
  -- what the document prints
  obtain ⟨T, er, cP, hT⟩ : ∃ (T : ByteArray) (er : Int), (∀ w, B.Lies w a l → Calls Tryd.prog 18 #[.slice a l.length cap] w fun e w' => e = .returned (.tuple #[.string T, .int .i64 er]) ∧ Below w.heap.size w w') ∧ (((er != 0) = true ∧ 0 < l.length) ∨ (T.size ≤ 3500 ∧ T.data.toList = M.txt l ∧ M.bad l = 0 ∧ ((er != 0) = false ∨ ((er != 0) = true ∧ l.length = 0)))) := by
    have hlen := M.txt_len l
    by_cases h0 : l = []
    · subst h0
      exact ⟨⟨#[]⟩, 4, fun w _ => B.tprint_none a cap w, Or.inr ⟨by decide, rfl, rfl, Or.inr ⟨rfl, rfl⟩⟩⟩
    · have hp0 := List.length_pos_iff.2 h0
      refine ⟨⟨(M.print l).1.toArray⟩, (M.print l).2, fun w hl => B.tprint_some a l cap w hl ok hp0 (by omega), ?_⟩
      by_cases hb : M.bad l = 0
      · have hp : M.print l = (M.txt l, 0) := by unfold M.print; rw [if_neg h0, if_neg (by omega), if_pos hb]
        rw [hp]
        exact Or.inr ⟨by rw [B.bar]; simp only; omega, rfl, hb, Or.inl rfl⟩
      · have hp : M.print l = ([], M.bad l) := by unfold M.print; rw [if_neg h0, if_neg (by omega), if_neg hb]
        rw [hp]
        exact Or.inl ⟨by simpa using hb, hp0⟩
  have cR : ∀ w, B.Nm w → T.data.toList = M.txt l → M.bad l = 0 → (∀ b ∈ d, b ≠ 10) → M.parse d = none → Calls Tryd.prog 14 #[.string (T ++ s ++ ⟨#[10]⟩ ++ t)] w fun e w' => e = .returned (.tuple #[.slice none 0 0, .int .i64 T.size, .int .i64 3]) ∧ Below w.heap.size w w' := by
    intro w hw hTl hb hno hp
    have hF : (T ++ s ++ ⟨#[10]⟩ ++ t).data.toList = M.txt l ++ (d ++ 10 :: t.data.toList) := by
      simp [hTl, hd]
    have hlen := M.txt_len l
    have hcount := M.txt_count ok
    have htl := B.bdl t
    have hTs : T.size = (M.txt l).length := by rw [B.bdl, hTl]
    have hsz : (T ++ s ++ ⟨#[10]⟩ ++ t).size = (M.txt l).length + d.length + 1 + t.size := by
      rw [B.bdl, hF, htl]; simp only [List.length_append, List.length_cons]; omega
    have hcd : d.count 10 = 0 := List.count_eq_zero_of_not_mem (fun hm => hno _ hm rfl)
    have hct := List.count_le_length (a := (10 : UInt8)) (l := t.data.toList)
    have := B.aread_rows (T ++ s ++ ⟨#[10]⟩ ++ t) (by rw [hF]; simp) (by rw [hsz]; omega) (by rw [hF, List.count_append, List.count_append, List.count_cons_self, hcount, hcd]; omega) w hw
    rw [hF, rows_bad ok hb hno hp] at this
    refine this.mono ?_
    rintro e w' ⟨he, hb⟩
    exact ⟨by rw [hTs]; exact he, hb⟩
  have HN := Lib.hid hN
  have HO := Lib.hid hl
  have HAT := Lib.hid hat
  have HD := Lib.hid hdl
  have HT := Lib.hid hT
  clear hN hl ok hat hd hdl hT h1
  go_enter Tryd.func6, Tryd.ntmps6
  go_wp2_with (go_at_call 9; refine (B.awake_any _ HN.out).mono ?_; rintro e w1 ⟨rfl, hb⟩; have hB := Lib.hid hb; clear hb)
  have HL1 := Lib.hid (HO.out.below hB.out)
  go_loop [35] (fun i => ∃ k : Nat, k ≤ d.length ∧ i = .int .i64 k ∧ Hid (∀ j (h : j < d.length), j < k → d[j] ≠ 10)) (fun i => d.length - (intOf i).toNat)
  case atStart => exact ⟨0, Nat.zero_le _, rfl, fun j h hj => by omega⟩
  case round =>
    obtain ⟨k, hk, rfl, HR⟩ := hrel
    have hds := HD.out
    by_cases hlt : k < d.length
    · have i1 : (k : Int) < (s.size : Int) := by omega
      obtain ⟨b, hb⟩ : ∃ b : Int, b = M.at_ s k := ⟨_, rfl⟩
      have hix := fun W => B.index_at s k (by omega) b hb W
      have hbl : b = (d[k].toNat : Int) := by rw [hb]; exact HAT.out k hlt
      by_cases h10 : d[k] = 10
      · have i3 : (b == 10) = true := by rw [hbl, h10]; rfl
        clear hbl hb h10 hds cR cP cQ
        go_wp2
        go_ret
        exact ⟨rfl, hB.out⟩
      · have i3 : (b == 10) = false := by
          rw [hbl, beq_eq_false_iff_ne]
          intro e
          exact h10 (UInt8.toNat_inj.1 (by show d[k].toNat = 10; omega))
        have H10 := Lib.hid h10
        clear hbl hb h10 hds cR cP cQ
        go_wp2
        go_round
        case rel => exact ⟨k + 1, by omega, by go_num, fun j h hj => by
          by_cases e : j = k
          · subst e; exact H10.out
          · exact HR.out j h (by omega)⟩
        case measure => simp [intOf]; omega
    · obtain rfl : k = d.length := by omega
      have i1 : ¬ (d.length : Int) < (s.size : Int) := by omega
      have hno : ∀ b ∈ d, b ≠ 10 := by
        intro b hb
        obtain ⟨j, hj, rfl⟩ := List.mem_iff_getElem.1 hb
        exact HR.out j hj hj
      clear hds
      have HNO := Lib.hid hno
      clear hno
      cases hp : M.parse d with
      | some i =>
        rw [hp] at cQ
        clear cR
        go_wp2_with (first
          | (go_at_call 18; refine (cP _ HL1.out).mono ?_; rintro e w2 ⟨rfl, hb⟩; have hB := B.stp hB hb; clear hb)
          | (go_at_call 13; refine (cQ _).mono ?_; rintro e w3 ⟨rfl, hb⟩; have hB := B.stp hB hb; clear hb))
        go_ret
        exact ⟨rfl, hB.out.alloc hB.out.size _⟩
      | none =>
        rw [hp] at cQ
        rcases HT.out with ⟨hz, hl0⟩ | ⟨hTs, hTl, hb0, hz⟩
        · have i5 : (0 : Int) < l.length := by omega
          clear cR hl0
          go_wp2_with (first
            | (go_at_call 18; refine (cP _ HL1.out).mono ?_; rintro e w2 ⟨rfl, hb⟩; have hB := B.stp hB hb; clear hb)
            | (go_at_call 13; refine (cQ _).mono ?_; rintro e w3 ⟨rfl, hb⟩; have hB := B.stp hB hb; clear hb))
          go_ret
          exact ⟨rfl, hB.out.alloc hB.out.size _⟩
        · have cR' : ∀ w, B.Nm w → Calls Tryd.prog 14 #[.string (T ++ s ++ ⟨#[10]⟩ ++ t)] w fun e w' => e = .returned (.tuple #[.slice none 0 0, .int .i64 T.size, .int .i64 3]) ∧ Below w.heap.size w w' := fun w hw => cR w hw hTl hb0 HNO.out hp
          clear cR hTl hb0 hp
          rcases hz with hz | ⟨hz, hl0⟩
          · go_wp2_with (first
              | (go_at_call 18; refine (cP _ HL1.out).mono ?_; rintro e w2 ⟨rfl, hb⟩; have hB := B.stp hB hb; clear hb)
              | (go_at_call 13; refine (cQ _).mono ?_; rintro e w3 ⟨rfl, hb⟩; have hB := B.stp hB hb; clear hb))
            refine (cR' _ (HN.out.below (hB.out.alloc hB.out.size _))).mono ?_
            rintro e w4 ⟨rfl, hb⟩
            have hB := B.al_stp hB hb
            clear hb cR' cP cQ
            go_wp2
            go_ret
            exact ⟨rfl, hB.out⟩
          · have i5 : ¬ (0 : Int) < l.length := by omega
            clear hl0
            go_wp2_with (first
              | (go_at_call 18; refine (cP _ HL1.out).mono ?_; rintro e w2 ⟨rfl, hb⟩; have hB := B.stp hB hb; clear hb)
              | (go_at_call 13; refine (cQ _).mono ?_; rintro e w3 ⟨rfl, hb⟩; have hB := B.stp hB hb; clear hb))
            refine (cR' _ (HN.out.below (hB.out.alloc hB.out.size _))).mono ?_
            rintro e w4 ⟨rfl, hb⟩
            have hB := B.al_stp hB hb
            clear hb cR' cP cQ
            go_wp2
            go_ret
            exact ⟨rfl, hB.out⟩

set_option maxHeartbeats 3200000 in
set_option maxRecDepth 1000000 in
theorem walk (a0 : Option Addr) (cap0 : Nat) (l0 : List M.I) (hn0 : l0.length ≤ cap0) (hm0 : cap0 ≤ maxLen) (ok0 : ∀ i ∈ l0, M.okI i) (s1 : ByteArray) (hs1 : s1.size ≤ maxLen) (s2 : ByteArray) (hs2 : s2.size ≤ maxLen) (w : World) (hN : B.Nm w) (hl0 : B.Lies w a0 l0) :
    Calls Tryd.prog 6 #[.slice a0 l0.length cap0, .string s1, .string s2] w fun e w' => e = .returned (.bool true) ∧ Below w.heap.size w w' := by
  by_cases h : 50 < l0.length ∨ 50 < s1.size ∨ 100 < s2.size
  · exact skip_ a0 l0.length cap0 s1 s2 w hN (by have := hm0; unfold maxLen at this; omega) h
  · exact main_ a0 cap0 l0 s1 s2 w hN (by omega) (by omega) (by omega) hl0 ok0

set_option maxRecDepth 100000 in
theorem lifted (os : Os) (started : os.Started) (H : Type) (enc : TypeId × Value → H) :
    ReturnsInHanded {} Tryd.checked os 6 .any (fun w args => (Rows.asmPlaceSpec.pre enc Tryd.prog Tryd.f6 [] false w args ∧ laidMetH Tryd.prog B.laidL w) ∧ sizedMet enc Tryd.prog Tryd.f6 (OpenSpec.ofChange Rows.asmPlaceSpec) false w args)
      (Rows.asmPlaceSpec.post enc Tryd.prog Tryd.f6 false true false false) := by
  refine returnsInHanded_of_change_and (C := Tryd.checked) (X := fun w _ => laidMetH Tryd.prog B.laidL w) (fun _ _ _ hh h => h.of_heap hh) own started (by kernel_rfl) Tryd.func6
    (ChangeSpec.witness_shaped (enc := enc) (C := Tryd.checked) (os := os) (X := fun w _ => laidMetH Tryd.prog B.laidL w) false (World.doorLaid Tryd.prog 400 os) #[.slice none 0 0, .string ByteArray.empty, .string ByteArray.empty] 8 rfl (World.shaped_of_RefB (by kernel_rfl) (by kernel_rfl)) (by kernel_rfl) (by kernel_rfl) (by kernel_rfl) (B.door_met os _)) ?_
  intro W base args ds gs before hval0 hW _ _ hL _
  have hval : ∀ (j : Nat) t v, Tryd.f6.params[j]? = some t → args[j]? = some v → Value.okWide Tryd.prog W .any base t v := hval0
  have hW' := hW
  obtain ⟨p, q, hA0, hV, rfl, hfz, hnd⟩ := hW
  have hA : DataW.TrodAll enc Tryd.prog W 0 (fun _ => true) true Tryd.f6.params.toList args.toList ds p := hA0
  rw [Tryd.params6] at hA hval
  obtain ⟨v0, vs0, d0, ds0, p0, q0, hargs, rfl, rfl, h0, r0⟩ := trodAll_cons hA
  obtain ⟨v1, vs1, d1, ds1, p1, q1, rfl, rfl, rfl, h1, r1⟩ := trodAll_cons r0
  obtain ⟨v2, vs2, d2, ds2, p2, q2, rfl, rfl, rfl, h2, r2⟩ := trodAll_cons r1
  obtain ⟨rfl, rfl, rfl⟩ := trodAll_nil r2
  obtain rfl : args = #[v0, v1, v2] := by cases args; simp_all
  obtain ⟨rfl, rfl⟩ := trodVars_none hV
  obtain ⟨a0, cap0, l0, rfl, hn0, hm0, hl0, ok0, _⟩ := B.arg_list (hval 0 37 v0 rfl rfl) h0
  obtain ⟨s1, rfl, hd1, hp1, hs1⟩ := Go.ChangeMaps.open_string Tryd.underlying9 (hval 1 9 v1 rfl rfl) h1
  obtain ⟨s2, rfl, hd2, hp2, hs2⟩ := Go.ChangeMaps.open_string Tryd.underlying9 (hval 2 9 v2 rfl rfl) h2
  clear hA0 hval0
  simp only [List.append_nil] at hW'
  have hlt0 : ∀ x ∈ p0, x.block < W.heap.size := fun x hx => by simpa using hW'.lt x (by simp [hx])
  have hlt1 : ∀ x ∈ p1, x.block < W.heap.size := fun x hx => by simpa using hW'.lt x (by simp [hx])
  have hlt2 : ∀ x ∈ p2, x.block < W.heap.size := fun x hx => by simpa using hW'.lt x (by simp [hx])
  refine (walk a0 cap0 l0 hn0 hm0 ok0 s1 hs1 s2 hs2 W (B.of_laid hL) hl0).mono fun e W' ⟨he, hg⟩ => ?_
  subst he
  exact ⟨_, rfl, _, _, _, [], (p0 ++ (p1 ++ (p2 ++ []))), [], hW', (trodAll_cons_mk (shut_bool Tryd.underlying4 _) trodAll_mk0), (trodAll_cons_mk (Below.trod laidOut (by kernel_rfl) (of_decide_eq_true (by kernel_rfl)) h0 hg hlt0) (trodAll_cons_mk (Below.trod laidOut (by kernel_rfl) (of_decide_eq_true (by kernel_rfl)) h1 hg hlt1) (trodAll_cons_mk (Below.trod laidOut (by kernel_rfl) (of_decide_eq_true (by kernel_rfl)) h2 hg hlt2) trodAll_mk0))), rfl, hg.frame _, fun h => by cases h⟩

theorem over : Rows.asmPlaceRow.holds Tryd.pinned (OpenSpec.ofChange Rows.asmPlaceSpec) :=
  OpenClaim.holds_of_wide 6 Tryd.f6 rfl rfl rfl rfl rfl rfl rfl ⟨rfl, rfl, rfl, rfl, rfl⟩ rfl rfl rfl rfl rfl (by kernel_rfl) Tryd.func6 (by kernel_rfl)
    (of_decide_eq_true (by kernel_rfl)) (by unfold Func.isWrapper; first | (rw [if_pos (by decide +kernel)]; kernel_rfl) | (rw [if_neg (by decide +kernel)]; exact ⟨rfl, rfl⟩))
    (fun os started H enc _ => lifted os started H enc)

theorem proved : Rows.AsmPlaceCardSaid :=
  Claim7.holds_tied_plain_at .later [] [.data, .data, .data, .sentinel, .sentinel] true (true, "058f8c6c10db4b7d94f8f322adace66690a8fd2e27c19ca23c17c710e3ff2ac4") true
    over (fun _ h => by cases h) (by kernel_rfl) (fun _ h => by cases h) asmPlace_row_tie rfl ⟨rfl, rfl⟩ (by kernel_rfl) rfl
    (fun f fn hf hfn => by
      obtain rfl : f = 6 := Option.some.inj ((show Tryd.prog.funcNamed "tamis/tamislaw05.AsmPlace" = some 6 by kernel_rfl).symm.trans hf) |>.symm
      obtain rfl : fn = Tryd.f6 := (Option.some.inj (Tryd.func6.symm.trans hfn)).symm
      exact ⟨by kernel_rfl, fun j t ht => by
        rw [Tryd.params6] at ht
        have hm : t ∈ [37, 9, 9] := by simpa using Array.mem_of_getElem? ht
        have hall : ([37, 9, 9].all fun u => !Tryd.prog.wantsStandIn u) = true := by kernel_rfl
        exact (show Tryd.prog.wantsStandIn t = false by simpa using List.all_eq_true.1 hall t hm)⟩)
    (by kernel_rfl)
#print axioms proved
end Go.Proofs.YtapjjpjiggjlfaaDoor.asmPlace
