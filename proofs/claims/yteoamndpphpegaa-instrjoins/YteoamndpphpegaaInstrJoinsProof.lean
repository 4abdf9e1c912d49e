/-
  For every two programs, their bytes, one behind the other, are read as both programs, one behind the other, and are the same where the programs are; no condition.
-/
import Derived.Test.YteoamndpphpegaaRows
import Derived.WalkKit
import Derived.ProofKit
import Derived.OpenShut
import Derived.Carry
import Derived.SizedLaws
import Derived.Test.YteoamndpphpegaaInsJoin
namespace Go.Proofs.Yteoamndpphpegaa.instrJoins
open Go.ChangeShapes Go.WideShapes Go.ChangeAt Go.RowKit
set_option linter.unusedVariables false

theorem own : ownKnob Try.prog.godebug = none := by kernel_rfl
theorem laidOut : laidOutB Try.prog = true := by kernel_rfl
set_option maxHeartbeats 1600000 in
set_option maxRecDepth 1000000 in
theorem skip_ (a b : Option Addr) (na ca nb cb : Nat) (w : World) (ha : na * 8 ≤ 140737488351232) (hb : nb * 8 ≤ 140737488351232)
    (h : na = 0 ∨ nb = 0 ∨ 300 < na + nb) :
    Calls Try.prog 6 #[.slice a na ca, .slice b nb cb] w fun e w' => e = .returned (.bool true) ∧ Below w.heap.size w w' := by
  have c : ((na : Int) == 0) = true ∨ (((na : Int) == 0) = false ∧ (((nb : Int) == 0) = true ∨ (((nb : Int) == 0) = false ∧ decide (300 < (na : Int) + (nb : Int)) = true))) := by
    simp only [beq_iff_eq, beq_eq_false_iff_ne, decide_eq_true_eq, ne_eq]; omega
  clear h
  rcases c with c1 | ⟨c1, c2 | ⟨c2, c3⟩⟩
  all_goals
    go_enter Try.func6, Try.ntmps6
    go_wp2_with fail
    refine (B.awake_any _).mono ?_
    rintro e w1 ⟨rfl, hB1⟩
    go_wp2_with fail
    refine (B.awake_any _).mono ?_
    rintro e w2 ⟨rfl, hB2⟩
    go_wp2
    go_ret
    exact ⟨rfl, hB1.trans (hB2.mono hB1.size)⟩

theorem same_text {l m : List M.I} (hl : ∀ i ∈ l, M.okI i) (hm : ∀ i ∈ m, M.okI i) : ((M.str (M.pr l)).toList == (M.str (M.pr m)).toList) = decide (l = m) := by
  rw [Bool.eq_iff_iff, beq_iff_eq, decide_eq_true_eq, ByteArray.toList_eq, ByteArray.toList_eq, ← M.str_pr_inj hl hm]
  exact ⟨fun h => M.bytes_ext h, fun h => by rw [h]⟩

set_option maxHeartbeats 3200000 in
set_option maxRecDepth 1000000 in
theorem main_ (b o na ca b' o' nb cb : Nat) (l m : List M.I) (w : World) (hn : l.length = na) (hn' : m.length = nb) (h0 : 0 < na) (h0' : 0 < nb) (h1 : na + nb ≤ 300)
    (hl : B.Lies w (some ⟨b, o, none⟩) l) (hm : B.Lies w (some ⟨b', o', none⟩) m) (ok : ∀ i ∈ l, M.okI i) (ok' : ∀ i ∈ m, M.okI i) :
    Calls Try.prog 6 #[.slice (some ⟨b, o, none⟩) na ca, .slice (some ⟨b', o', none⟩) nb cb] w fun e w' => e = .returned (.bool true) ∧ Below w.heap.size w w' := by
  obtain ⟨i0, hi, hz0, hz1, hz2⟩ := info_parts B.info39
  have c1 : ((na : Int) == 0) = false := beq_eq_false_iff_ne.2 (by omega)
  have c2 : ((nb : Int) == 0) = false := beq_eq_false_iff_ne.2 (by omega)
  have c3 : decide (300 < (na : Int) + (nb : Int)) = false := by simp; omega
  obtain ⟨Q, hQ⟩ : ∃ Q, decide (l = m) = Q := ⟨_, rfl⟩
  have hq := same_text ok ok'
  rw [hQ] at hq
  obtain ⟨T, hT⟩ : ∃ T, M.str (M.pr l) = T := ⟨_, rfl⟩
  obtain ⟨U, hU⟩ : ∃ U, M.str (M.pr m) = U := ⟨_, rfl⟩
  have hTs : T.size = 8 * na := by rw [← hT, M.str_size, M.pr_len, hn]
  have hUs : U.size = 8 * nb := by rw [← hU, M.str_size, M.pr_len, hn']
  have hTU : T ++ U = M.str (M.pr (l ++ m)) := by rw [← hT, ← hU, M.str_append, M.pr_append]
  have hll : (l ++ m).length = na + nb := by rw [List.length_append, hn, hn']
  have hr : M.rdl (T ++ U) (na + nb) = l ++ m := by
    rw [hTU, ← hll]
    exact M.rdl_pr_all _ (fun i hi => (List.mem_append.1 hi).elim (ok i) (ok' i))
  have hsz : (T ++ U).size = 8 * (na + nb) := by rw [ByteArray.size_append, hTs, hUs]; omega
  rw [hT, hU] at hq
  have HA : Hid (l.length = na ∧ B.Lies w (some ⟨b, o, none⟩) l ∧ (∀ i ∈ l, M.okI i) ∧ M.str (M.pr l) = T) := ⟨hn, hl, ok, hT⟩
  have HB : Hid (m.length = nb ∧ B.Lies w (some ⟨b', o', none⟩) m ∧ (∀ i ∈ m, M.okI i) ∧ M.str (M.pr m) = U) := ⟨hn', hm, ok', hU⟩
  have HC : Hid ((l ++ m).length = na + nb ∧ M.rdl (T ++ U) (na + nb) = l ++ m ∧ (T ++ U).size = 8 * (na + nb) ∧ decide (l = m) = Q) := ⟨hll, hr, hsz, hQ⟩
  have t1 : T.size ≤ 2400 := by omega
  have t2 : U.size ≤ 2400 := by omega
  clear hn hl ok hT hn' hm ok' hU hTs hUs hTU hll hr hsz hQ
  go_enter Try.func6, Try.ntmps6
  go_wp2_with fail
  refine (B.awake_any _).mono ?_
  rintro e w1 ⟨rfl, hB1⟩
  go_wp2_with fail
  refine (B.print_len _ l na _ _ HA.out.1 (HA.out.2.1.below hB1) HA.out.2.2.1 h0 (by omega) T HA.out.2.2.2).mono ?_
  rintro e w2 ⟨rfl, hB2⟩
  have hbw2 : Below w.heap.size w w2 := hB1.trans (hB2.mono hB1.size)
  clear hB1 hB2
  go_wp2_with fail
  refine (B.print_len _ m nb _ _ HB.out.1 (HB.out.2.1.below hbw2) HB.out.2.2.1 h0' (by omega) U HB.out.2.2.2).mono ?_
  rintro e w3 ⟨rfl, hB3⟩
  have hbw3 : Below w.heap.size w w3 := hbw2.trans (hB3.mono hbw2.size)
  clear hB3 hbw2
  go_wp2_with fail
  refine (B.read_len (T ++ U) (na + nb) _ HC.out.2.2.1 (by omega) (by omega) (l ++ m) HC.out.2.1).mono ?_
  rintro e w4 ⟨g4, cap4, rfl, hL4, hB4⟩
  have hbw4 : Below w.heap.size w w4 := hbw3.trans (hB4.mono hbw3.size)
  have HL4 : Hid (B.Lies w4 (some ⟨g4, 0, none⟩) (l ++ m) ∧ B.Lies w4 (some ⟨b, o, none⟩) l ∧ B.Lies w4 (some ⟨b', o', none⟩) m) := ⟨hL4, HA.out.2.1.below hbw4, HB.out.2.1.below hbw4⟩
  clear hB4 hbw3 hL4
  go_wp2_with (at_builtin; refine B.wpList_append_g (by rfl) _ _ 23 rfl w4.heap.size 39 i0 (.agg #[.int .u16 0, .int .u8 0, .int .u8 0, .int .u32 0]) 4 8 Try.underlying23 hi hz0 hz1 hz2 rfl (by decide) _ 0 _ rfl (B.own_empty w4) ⟨b, o, none⟩ na ca (B.i4s l) rfl ?c0 ?c1 ?c2 h0 ?c3 ?c4 ?c5 (w4.heap.size + 1) ?c6 ?_)
  case c0 => rw [B.i4s_len, HA.out.1]
  case c1 => exact B.lies_cells (HL4.out.2.1.below ((Below.refl _ _).alloc (Nat.le_refl _) _))
  case c2 => exact B.i4s_one l
  case c3 => unfold maxLen; omega
  case c4 => omega
  case c5 => simp
  case c6 => simp
  intro g5 cap5 w5 hown5 hgrow5 hat5 hlt5
  have hB5 : Below w4.heap.size w4 w5 := ((Below.refl _ _).alloc (Nat.le_refl _) _).grown hgrow5 (by simp) (by intro k hk; simp [Value.ownBlock] at hk; omega)
  have HL5 : Hid (B.Lies w5 (some ⟨b', o', none⟩) m) := HL4.out.2.2.below hB5
  have hz5 := hB5.size
  have hg5 : w4.heap.size ≤ g5 := (hown5.lt g5 rfl).1
  clear hgrow5 hat5
  go_wp2_with (at_builtin; refine B.wpList_append_g (by rfl) _ _ 23 rfl w4.heap.size 39 i0 (.agg #[.int .u16 0, .int .u8 0, .int .u8 0, .int .u32 0]) 4 8 Try.underlying23 hi hz0 hz1 hz2 rfl (by decide) _ na _ rfl hown5 ⟨b', o', none⟩ nb cb (B.i4s m) rfl ?e0 ?e1 ?e2 h0' ?e3 ?e4 ?e5 w5.heap.size rfl ?_)
  case e0 => rw [B.i4s_len, HB.out.1]
  case e1 => exact B.lies_cells HL5.out
  case e2 => exact B.i4s_one m
  case e3 => unfold maxLen; omega
  case e4 => omega
  case e5 => exact hz5
  intro g6 cap6 w6 hown6 hgrow6 hat6 hlt6
  have hB6 : Below w4.heap.size w4 w6 := hB5.grown hgrow6 hz5 (by intro k hk; simp [Value.ownBlock] at hk; omega)
  rw [← B.i4s_append] at hown6
  have HL6 : Hid (B.Lies w6 (some ⟨g4, 0, none⟩) (l ++ m) ∧ B.Lies w6 (some ⟨g6, 0, none⟩) (l ++ m) ∧ B.Lies w6 (some ⟨b, o, none⟩) l ∧ B.Lies w6 (some ⟨b', o', none⟩) m) :=
    ⟨HL4.out.1.below hB6, B.lies_of_own hown6 HC.out.1, HL4.out.2.1.below hB6, HL4.out.2.2.below hB6⟩
  have hbw6 : Below w.heap.size w w6 := hbw4.trans (hB6.mono hbw4.size)
  clear hown5 hown6 hgrow6 hat6 hlt6 hlt5 hB5 hB6 HL4 HL5 hbw4 hz5 hg5
  go_wp2_with fail
  refine (B.rsame_len _ _ (l ++ m) (l ++ m) (na + nb) (na + nb) _ _ _ HC.out.1 HC.out.1 HL6.out.1 HL6.out.2.1 (by omega) (by omega) true (by simp)).mono ?_
  rintro e w7 ⟨rfl, q, rfl⟩
  go_wp2_with fail
  refine (B.rsame_len _ _ l m na nb _ _ _ HA.out.1 HB.out.1 (HL6.out.2.2.1.drewN q) (HL6.out.2.2.2.drewN q) (by omega) (by omega) Q HC.out.2.2.2).mono ?_
  rintro e w8 ⟨rfl, q2, rfl⟩
  go_wp2
  go_ret
  exact ⟨rfl, B.below_drawn hbw6 _⟩

set_option maxHeartbeats 3200000 in
set_option maxRecDepth 1000000 in
theorem walk (a0 : Option Addr) (cap0 : Nat) (l0 : List M.I) (hn0 : l0.length ≤ cap0) (hm0 : cap0 ≤ maxLen) (ok0 : ∀ i ∈ l0, M.okI i) (hr0 : l0.length * 8 ≤ 140737488351232) (a1 : Option Addr) (cap1 : Nat) (l1 : List M.I) (hn1 : l1.length ≤ cap1) (hm1 : cap1 ≤ maxLen) (ok1 : ∀ i ∈ l1, M.okI i) (hr1 : l1.length * 8 ≤ 140737488351232) (w : World) (hl0 : B.Lies w a0 l0) (hl1 : B.Lies w a1 l1) :
    Calls Try.prog 6 #[.slice a0 l0.length cap0, .slice a1 l1.length cap1] w fun e w' => e = .returned (.bool true) ∧ Below w.heap.size w w' := by
  by_cases h : l0.length = 0 ∨ l1.length = 0 ∨ 300 < l0.length + l1.length
  · exact skip_ a0 a1 l0.length cap0 l1.length cap1 w hr0 hr1 h
  · rcases hl0 with hl | ⟨b, o, rfl, hb, hl⟩
    · exfalso; rw [hl] at h; simp at h
    · rcases hl1 with hl' | ⟨b', o', rfl, hb', hl'⟩
      · exfalso; rw [hl'] at h; simp at h
      · exact main_ b o l0.length cap0 b' o' l1.length cap1 l0 l1 w rfl rfl (by omega) (by omega) (by omega) (.inr ⟨b, o, rfl, hb, hl⟩) (.inr ⟨b', o', rfl, hb', hl'⟩) ok0 ok1

set_option maxRecDepth 100000 in
theorem lifted (os : Os) (started : os.Started) (H : Type) (enc : TypeId × Value → H) :
    ReturnsInHanded {} Try.checked os 6 .any (Rows.instrJoinsSpec.pre6 enc Try.prog Try.f6 Rows.instrJoinsRow.domain false) (Rows.instrJoinsSpec.post enc Try.prog Try.f6 false true false false) := by
  refine returnsInHanded_of_change_sized (C := Try.checked) own started (by kernel_rfl) Try.func6
    (ChangeSpec.witness6 (enc := enc) (C := Try.checked) false ⟨#[], #[.slice none 0 0, .slice none 0 0], []⟩ 8 (by kernel_rfl) (by kernel_rfl) (by kernel_rfl) (by kernel_rfl)) ?_
  intro W base args ds gs before hval0 hW hcnd hsz0 _
  have hsz : (DataW.weightsEach Try.prog (Try.f6.params.toList ++ Rows.instrJoinsSpec.plain.varTypes Try.prog) (ds ++ gs)).all (· ≤ reachBytes) = true := hsz0
  have hval : ∀ (j : Nat) t v, Try.f6.params[j]? = some t → args[j]? = some v → Value.okWide Try.prog W .any base t v := hval0
  have hW' := hW
  obtain ⟨p, q, hA0, hV, rfl, hfz, hnd⟩ := hW
  have hA : DataW.TrodAll enc Try.prog W 0 (fun _ => true) true Try.f6.params.toList args.toList ds p := hA0
  rw [Try.params6] at hA hval hsz
  obtain ⟨v0, vs0, d0, ds0, p0, q0, hargs, rfl, rfl, h0, r0⟩ := trodAll_cons hA
  obtain ⟨v1, vs1, d1, ds1, p1, q1, rfl, rfl, rfl, h1, r1⟩ := trodAll_cons r0
  obtain ⟨rfl, rfl, rfl⟩ := trodAll_nil r1
  obtain rfl : args = #[v0, v1] := by cases args; simp_all
  obtain ⟨rfl, rfl⟩ := trodVars_none hV
  obtain ⟨a0, cap0, l0, rfl, hn0, hm0, hl0, ok0, _⟩ := B.arg_list (hval 0 23 v0 rfl rfl) h0
  obtain ⟨a1, cap1, l1, rfl, hn1, hm1, hl1, ok1, _⟩ := B.arg_list (hval 1 23 v1 rfl rfl) h1
  clear hA0 hval0
  simp only [List.append_nil] at hW'
  have hlt0 : ∀ x ∈ p0, x.block < W.heap.size := fun x hx => by simpa using hW'.lt x (by simp [hx])
  have hlt1 : ∀ x ∈ p1, x.block < W.heap.size := fun x hx => by simpa using hW'.lt x (by simp [hx])
  have hr0 : l0.length * 8 ≤ 140737488351232 := by
    rcases B.list_size h0 with h | ⟨E, S, hd, hel⟩
    · omega
    · have := sized_slice hsz (j := 0) (t := 23) (e := 39) (elems := E) (spare := S) rfl (by rw [hd]; rfl) Try.underlying23
      rw [B.bytes39] at this
      simp only [reachBytes] at this
      omega
  have hr1 : l1.length * 8 ≤ 140737488351232 := by
    rcases B.list_size h1 with h | ⟨E, S, hd, hel⟩
    · omega
    · have := sized_slice hsz (j := 1) (t := 23) (e := 39) (elems := E) (spare := S) rfl (by rw [hd]; rfl) Try.underlying23
      rw [B.bytes39] at this
      simp only [reachBytes] at this
      omega
  refine (walk a0 cap0 l0 hn0 hm0 ok0 hr0 a1 cap1 l1 hn1 hm1 ok1 hr1 W hl0 hl1).mono fun e W' ⟨he, hg⟩ => ?_
  subst he
  exact ⟨_, rfl, _, _, _, [], (p0 ++ (p1 ++ [])), [], hW', (trodAll_cons_mk (shut_bool Try.underlying4 _) trodAll_mk0), (trodAll_cons_mk (Below.trod laidOut (by kernel_rfl) (of_decide_eq_true (by kernel_rfl)) h0 hg hlt0) (trodAll_cons_mk (Below.trod laidOut (by kernel_rfl) (of_decide_eq_true (by kernel_rfl)) h1 hg hlt1) trodAll_mk0)), rfl, hg.frame _, fun h => by cases h⟩

theorem over : Rows.instrJoinsRow.holds Try.pinned (OpenSpec.ofChange Rows.instrJoinsSpec) :=
  OpenClaim.holds_of_wide 6 Try.f6 rfl rfl rfl rfl rfl rfl rfl ⟨rfl, rfl, rfl, rfl, rfl⟩ rfl rfl rfl rfl rfl (by kernel_rfl) Try.func6 (by kernel_rfl)
    (of_decide_eq_true (by kernel_rfl)) (by unfold Func.isWrapper; first | (rw [if_pos (by decide +kernel)]; kernel_rfl) | (rw [if_neg (by decide +kernel)]; exact ⟨rfl, rfl⟩))
    (fun os started H enc _ => lifted os started H enc)

theorem proved : Rows.InstrJoinsSaid :=
  over
#print axioms proved
end Go.Proofs.Yteoamndpphpegaa.instrJoins
