/-
  For every two programs of at most 80 instructions together (of more the statement asks nothing more) and every cut: their texts, one behind the other, are both programs', one behind the other; a text that is cut off within a line is refused where that line begins.
-/
import Derived.Test.YtapjjpjiggjlfaaDoorRows
import Derived.WalkKit
import Derived.ProofKit
import Derived.OpenShut
import Derived.Carry
import Derived.Test.YtapjjpjiggjlfaaDoorTie
import Derived.Test.YtapjjpjiggjlfaaDoorCards
import Derived.SevenTiedAt
import Derived.SizedLaws
import Derived.Test.YtapjjpjiggjlfaaDoorAsmAwake
namespace Go.Proofs.YtapjjpjiggjlfaaDoor.asmJoins
open Go.ChangeShapes Go.WideShapes Go.ChangeAt Go.RowKit
set_option linter.unusedVariables false

theorem own : ownKnob Tryd.prog.godebug = none := by kernel_rfl
theorem laidOut : laidOutB Tryd.prog = true := by kernel_rfl
set_option maxHeartbeats 1600000 in
set_option maxRecDepth 1000000 in
theorem skip_ (a b : Option Addr) (na ca nb cb : Nat) (n : Int) (w : World) (hN : B.Nm w) (ha : na * 8 ≤ 140737488351232) (hb : nb * 8 ≤ 140737488351232)
    (h : na = 0 ∨ nb = 0 ∨ 80 < na + nb) :
    Calls Tryd.prog 8 #[.slice a na ca, .slice b nb cb, .int .i64 n] w fun e w' => e = .returned (.bool true) ∧ Below w.heap.size w w' := by
  have c : ((na : Int) == 0) = true ∨ (((na : Int) == 0) = false ∧ (((nb : Int) == 0) = true ∨ (((nb : Int) == 0) = false ∧ decide (80 < (na : Int) + (nb : Int)) = true))) := by
    simp only [beq_iff_eq, beq_eq_false_iff_ne, decide_eq_true_eq, ne_eq]; omega
  have HN := Lib.hid hN
  clear h hN
  rcases c with c1 | ⟨c1, c2 | ⟨c2, c3⟩⟩
  all_goals
    go_enter Tryd.func8, Tryd.ntmps8
    go_wp2_with fail
    refine (B.awake_any _ HN.out).mono ?_
    rintro e w1 ⟨rfl, hb⟩
    have hB := Lib.hid hb
    clear hb
    go_wp2_with fail
    refine (B.awake_any _ (HN.out.below hB.out)).mono ?_
    rintro e w2 ⟨rfl, hb⟩
    have hB := B.stp hB hb
    clear hb
    go_wp2
    go_ret
    exact ⟨rfl, hB.out⟩

theorem txt_last {m : List M.I} (h : m ≠ []) : (M.txt m).getLast? = some 10 := by
  rcases List.eq_nil_or_concat m with rfl | ⟨p, i, rfl⟩
  · exact absurd rfl h
  · rw [List.concat_eq_append, M.txt_append]
    simp [M.txt]
theorem cut_rows {l : List M.I} {k : Nat} (hk : k < (M.txt l).length) (h10 : (M.txt l)[k] ≠ 10) : ∃ q, M.rows [] 0 ((M.txt l).take (k + 1)) = .inl q ∧ q ≤ k := by
  cases e : M.rows [] 0 ((M.txt l).take (k + 1)) with
  | inl q =>
    have := M.rows_place _ _ _ _ e
    simp at this
    exact ⟨q, rfl, by omega⟩
  | inr m =>
    exfalso
    have h1 := (M.rows_ok _ _ _ _ e).1
    rw [List.nil_append] at h1
    have hm : m ≠ [] := by
      rintro rfl
      have h5 : ((M.txt l).take (k + 1)).length = 0 := by rw [← h1]; rfl
      rw [List.length_take] at h5
      omega
    have h2 := txt_last hm
    rw [h1, List.take_succ_eq_append_getElem hk, List.getLast?_concat] at h2
    exact h10 (Option.some.inj h2)

set_option maxHeartbeats 3200000 in
set_option maxRecDepth 1000000 in
theorem bad_ (a b : Option Addr) (na ca nb cb : Nat) (n : Int) (T U : ByteArray) (er fr : Int) (w : World) (hN : B.Nm w) (h0 : 0 < na) (h0' : 0 < nb) (h1 : na + nb ≤ 80)
    (cP : ∀ w', Below w.heap.size w w' → Calls Tryd.prog 18 #[.slice a na ca] w' fun e w'' => e = .returned (.tuple #[.string T, .int .i64 er]) ∧ Below w'.heap.size w' w'')
    (cQ : ∀ w', Below w.heap.size w w' → Calls Tryd.prog 18 #[.slice b nb cb] w' fun e w'' => e = .returned (.tuple #[.string U, .int .i64 fr]) ∧ Below w'.heap.size w' w'')
    (hz : (er != 0) = true ∨ ((er != 0) = false ∧ (fr != 0) = true)) :
    Calls Tryd.prog 8 #[.slice a na ca, .slice b nb cb, .int .i64 n] w fun e w' => e = .returned (.bool true) ∧ Below w.heap.size w w' := by
  have c1 : ((na : Int) == 0) = false := beq_eq_false_iff_ne.2 (by omega)
  have c2 : ((nb : Int) == 0) = false := beq_eq_false_iff_ne.2 (by omega)
  have c3 : decide (80 < (na : Int) + (nb : Int)) = false := by simp; omega
  have HN := Lib.hid hN
  clear hN
  rcases hz with hz | ⟨hz, hy⟩
  all_goals
    go_enter Tryd.func8, Tryd.ntmps8
    go_wp2_with fail
    refine (B.awake_any _ HN.out).mono ?_
    rintro e w1 ⟨rfl, hb⟩
    have hB := Lib.hid hb
    clear hb
    go_wp2_with fail
    refine (cP _ hB.out).mono ?_
    rintro e w2 ⟨rfl, hb⟩
    have hB := B.stp hB hb
    clear hb
    go_wp2_with fail
    refine (cQ _ hB.out).mono ?_
    rintro e w3 ⟨rfl, hb⟩
    have hB := B.stp hB hb
    clear hb
    go_wp2
    go_ret
    exact ⟨rfl, hB.out⟩

set_option maxHeartbeats 6400000 in
set_option maxRecDepth 1000000 in
theorem main_ (b o na ca b' o' nb cb : Nat) (n : Int) (hnb : -9223372036854775808 ≤ n ∧ n ≤ 9223372036854775807) (l m : List M.I) (T U : ByteArray) (w : World) (hN : B.Nm w) (hn : l.length = na) (hn' : m.length = nb) (h0 : 0 < na) (h0' : 0 < nb) (h1 : na + nb ≤ 80)
    (hl : B.Lies w (some ⟨b, o, none⟩) l) (hm : B.Lies w (some ⟨b', o', none⟩) m)
    (t1 : T.size ≤ 5600) (t2 : U.size ≤ 5600)
    (cP : ∀ w', Below w.heap.size w w' → Calls Tryd.prog 18 #[.slice (some ⟨b, o, none⟩) na ca] w' fun e w'' => e = .returned (.tuple #[.string T, .int .i64 0]) ∧ Below w'.heap.size w' w'')
    (cQ : ∀ w', Below w.heap.size w w' → Calls Tryd.prog 18 #[.slice (some ⟨b', o', none⟩) nb cb] w' fun e w'' => e = .returned (.tuple #[.string U, .int .i64 0]) ∧ Below w'.heap.size w' w'')
    (cR : ∀ w', B.Nm w' → Calls Tryd.prog 14 #[.string (T ++ U)] w' fun e w'' => ∃ g cap, e = .returned (.tuple #[.slice (some ⟨g, 0, none⟩) (na + nb) cap, .int .i64 0, .int .i64 0]) ∧ B.Lies w'' (some ⟨g, 0, none⟩) (l ++ m) ∧ Below w'.heap.size w' w'')
    (hcut : n < 0 ∨ (¬ n < 0 ∧ (T.size : Int) ≤ n) ∨ ∃ (k : Nat) (v : Int) (D : ByteArray) (q : Nat), n = k ∧ k < T.size ∧ (∀ W, (Instr.index 9 (.string T) (.int .i64 (k : Int))).run Tryd.prog W = .ok (.int .u8 v) W) ∧ ((v == 10) = true ∨ ((v == 10) = false ∧ q ≤ k ∧ (∀ W : World, (Instr.slice 9 (.string T) none (some (.int .i64 ((k : Int) + 1))) none).run Tryd.prog W = .ok (.string D) W) ∧
      (∀ w', B.Nm w' → Calls Tryd.prog 14 #[.string D] w' fun e w'' => e = .returned (.tuple #[.slice none 0 0, .int .i64 q, .int .i64 3]) ∧ Below w'.heap.size w' w'') ∧
      (∀ w', Calls Tryd.prog 15 #[.string D] w' fun e w'' => e = .returned (.tuple #[.slice none 0 0, .int .i64 q, .int .i64 3]) ∧ Below w'.heap.size w' w'')))) :
    Calls Tryd.prog 8 #[.slice (some ⟨b, o, none⟩) na ca, .slice (some ⟨b', o', none⟩) nb cb, .int .i64 n] w fun e w' => e = .returned (.bool true) ∧ Below w.heap.size w w' := by
  obtain ⟨i0, hi, hz0, hz1, hz2⟩ := info_parts B.info39
  have c1 : ((na : Int) == 0) = false := beq_eq_false_iff_ne.2 (by omega)
  have c2 : ((nb : Int) == 0) = false := beq_eq_false_iff_ne.2 (by omega)
  have c3 : decide (80 < (na : Int) + (nb : Int)) = false := by simp; omega
  have hll : (l ++ m).length = na + nb := by rw [List.length_append, hn, hn']
  have HN := Lib.hid hN
  have HA := Lib.hid (And.intro hn (And.intro hl (And.intro hn' (And.intro hm hll))))
  clear hn hl hn' hm hll hN
  rcases hcut with k1 | ⟨k1, k2⟩ | ⟨k, v, D, q, rfl, hkT, hix, hv | ⟨hv, hqk, hsl, cX, cY⟩⟩
  all_goals
    go_enter Tryd.func8, Tryd.ntmps8
    go_wp2_with fail
    refine (B.awake_any _ HN.out).mono ?_
    rintro e w1 ⟨rfl, hb⟩
    have hB := Lib.hid hb
    clear hb
    go_wp2_with fail
    refine (cP _ hB.out).mono ?_
    rintro e w2 ⟨rfl, hb⟩
    have hB := B.stp hB hb
    clear hb
    go_wp2_with fail
    refine (cQ _ hB.out).mono ?_
    rintro e w3 ⟨rfl, hb⟩
    have hB := B.stp hB hb
    clear hb
    go_wp2_with fail
    refine (cR _ (HN.out.below hB.out)).mono ?_
    rintro e w4 ⟨g4, cap4, rfl, hL4, hb⟩
    have hB := B.stp hB hb
    have HL4 : Hid (B.Lies w4 (some ⟨g4, 0, none⟩) (l ++ m) ∧ B.Lies w4 (some ⟨b, o, none⟩) l ∧ B.Lies w4 (some ⟨b', o', none⟩) m) := ⟨hL4, HA.out.2.1.below hB.out, HA.out.2.2.2.1.below hB.out⟩
    clear hb hL4 cP cQ cR
    go_wp2_with (at_builtin; refine B.wpList_append_g (by rfl) _ _ 37 rfl w4.heap.size 25 i0 (.agg #[.int .u16 0, .int .u8 0, .int .u8 0, .int .u32 0]) 4 8 Tryd.underlying37 hi hz0 hz1 hz2 rfl (by decide) _ 0 _ rfl (B.own_empty w4) ⟨b, o, none⟩ na ca (B.i4s l) rfl ?c0 ?c1 ?c2 h0 ?c3 ?c4 ?c5 (w4.heap.size + 1) ?c6 ?_)
    case c0 => rw [B.i4s_len, HA.out.1]
    case c1 => exact B.lies_cells (HL4.out.2.1.below ((Below.refl _ _).alloc (Nat.le_refl _) _))
    case c2 => exact B.i4s_one l
    case c3 => unfold maxLen; omega
    case c4 => omega
    case c5 => simp
    case c6 => simp
    intro g5 cap5 w5 hown5 hgrow5 hat5 hlt5
    have hB5 : Below w4.heap.size w4 w5 := ((Below.refl _ _).alloc (Nat.le_refl _) _).grown hgrow5 (by simp) (by intro k hk; simp [Value.ownBlock] at hk; omega)
    have HL5 : Hid (B.Lies w5 (some ⟨b', o', none⟩) m) := HL4.out.2.2.below hB5
    have hz5 := hB5.size
    have hg5 : w4.heap.size ≤ g5 := (hown5.lt g5 rfl).1
    clear hgrow5 hat5
    go_wp2_with (at_builtin; refine B.wpList_append_g (by rfl) _ _ 37 rfl w4.heap.size 25 i0 (.agg #[.int .u16 0, .int .u8 0, .int .u8 0, .int .u32 0]) 4 8 Tryd.underlying37 hi hz0 hz1 hz2 rfl (by decide) _ na _ rfl hown5 ⟨b', o', none⟩ nb cb (B.i4s m) rfl ?e0 ?e1 ?e2 h0' ?e3 ?e4 ?e5 w5.heap.size rfl ?_)
    case e0 => rw [B.i4s_len, HA.out.2.2.1]
    case e1 => exact B.lies_cells HL5.out
    case e2 => exact B.i4s_one m
    case e3 => unfold maxLen; omega
    case e4 => omega
    case e5 => exact hz5
    intro g6 cap6 w6 hown6 hgrow6 hat6 hlt6
    have hB6 : Below w4.heap.size w4 w6 := hB5.grown hgrow6 hz5 (by intro k hk; simp [Value.ownBlock] at hk; omega)
    rw [← B.i4s_append] at hown6
    have HL6 : Hid (B.Lies w6 (some ⟨g4, 0, none⟩) (l ++ m) ∧ B.Lies w6 (some ⟨g6, 0, none⟩) (l ++ m)) := ⟨HL4.out.1.below hB6, B.lies_of_own hown6 HA.out.2.2.2.2⟩
    have hB := B.stp hB hB6
    clear hown5 hown6 hgrow6 hat6 hlt6 hlt5 hB5 hB6 HL4 HL5 hz5 hg5
    go_wp2_with fail
    refine (B.rsame_len _ _ (l ++ m) (l ++ m) (na + nb) (na + nb) _ _ _ HA.out.2.2.2.2 HA.out.2.2.2.2 HL6.out.1 HL6.out.2 (by omega) (by omega) true (by simp)).mono ?_
    rintro e w7 ⟨rfl, qq, rfl⟩
    have hB := Lib.hid (below_drewN hB.out qq)
    clear HL6
  · go_wp2
    go_ret
    exact ⟨rfl, hB.out⟩
  · go_wp2
    go_ret
    exact ⟨rfl, hB.out⟩
  · have k1 : ¬ (k : Int) < 0 := by omega
    have k2 : ¬ (T.size : Int) ≤ k := by omega
    go_wp2
    go_ret
    exact ⟨rfl, hB.out⟩
  · have k1 : ¬ (k : Int) < 0 := by omega
    have k2 : ¬ (T.size : Int) ≤ k := by omega
    have k3 : (q : Int) ≤ k := by omega
    go_wp2_with fail
    refine (cX _ (HN.out.below hB.out)).mono ?_
    rintro e w8 ⟨rfl, hb⟩
    have hB := B.stp hB hb
    clear hb
    go_wp2_with fail
    refine (cY _).mono ?_
    rintro e w9 ⟨rfl, hb⟩
    have hB := B.stp hB hb
    clear hb
    go_wp2
    go_ret
    exact ⟨rfl, hB.out⟩

set_option maxHeartbeats 3200000 in
set_option maxRecDepth 1000000 in
theorem walk (a0 : Option Addr) (cap0 : Nat) (l0 : List M.I) (hn0 : l0.length ≤ cap0) (hm0 : cap0 ≤ maxLen) (ok0 : ∀ i ∈ l0, M.okI i) (hr0 : l0.length * 8 ≤ 140737488351232) (a1 : Option Addr) (cap1 : Nat) (l1 : List M.I) (hn1 : l1.length ≤ cap1) (hm1 : cap1 ≤ maxLen) (ok1 : ∀ i ∈ l1, M.okI i) (hr1 : l1.length * 8 ≤ 140737488351232) (n2 : Int) (wf2 : (Lit.int .i64 n2).wf = true) (w : World) (hN : B.Nm w) (hl0 : B.Lies w a0 l0) (hl1 : B.Lies w a1 l1) :
    Calls Tryd.prog 8 #[.slice a0 l0.length cap0, .slice a1 l1.length cap1, .int .i64 n2] w fun e w' => e = .returned (.bool true) ∧ Below w.heap.size w w' := by
  by_cases h : l0.length = 0 ∨ l1.length = 0 ∨ 80 < l0.length + l1.length
  · exact skip_ a0 a1 l0.length cap0 l1.length cap1 n2 w hN hr0 hr1 h
  · have cP : ∀ w', Below w.heap.size w w' → Calls Tryd.prog 18 #[.slice a0 l0.length cap0] w' fun e w'' => e = .returned (.tuple #[.string ⟨(M.print l0).1.toArray⟩, .int .i64 (M.print l0).2]) ∧ Below w'.heap.size w' w'' := fun w' hw => B.tprint_some a0 l0 cap0 w' (hl0.below hw) ok0 (by omega) (by omega)
    have cQ : ∀ w', Below w.heap.size w w' → Calls Tryd.prog 18 #[.slice a1 l1.length cap1] w' fun e w'' => e = .returned (.tuple #[.string ⟨(M.print l1).1.toArray⟩, .int .i64 (M.print l1).2]) ∧ Below w'.heap.size w' w'' := fun w' hw => B.tprint_some a1 l1 cap1 w' (hl1.below hw) ok1 (by omega) (by omega)
    have ne0 : l0 ≠ [] := by rintro rfl; simp at h
    have ne1 : l1 ≠ [] := by rintro rfl; simp at h
    have pr : ∀ x : List M.I, x ≠ [] → x.length ≤ 4096 → M.print x = if M.bad x = 0 then (M.txt x, 0) else ([], M.bad x) := by
      intro x hx h4
      unfold M.print
      rw [if_neg hx, if_neg (by omega)]
    have p0 := pr l0 ne0 (by omega)
    have p1 := pr l1 ne1 (by omega)
    by_cases b0 : M.bad l0 = 0
    · by_cases b1 : M.bad l1 = 0
      · rw [if_pos b0] at p0
        rw [if_pos b1] at p1
        rw [p0] at cP
        rw [p1] at cQ
        have okk : ∀ i ∈ l0 ++ l1, M.okI i := fun i hi => (List.mem_append.1 hi).elim (ok0 i) (ok1 i)
        have bb : M.bad (l0 ++ l1) = 0 := by rw [M.bad_append, if_pos b0]; exact b1
        have s0 := M.txt_len l0
        have s1 := M.txt_len l1
        obtain ⟨T, hT⟩ : ∃ T : ByteArray, T = ⟨(M.txt l0).toArray⟩ := ⟨_, rfl⟩
        obtain ⟨U, hU⟩ : ∃ U : ByteArray, U = ⟨(M.txt l1).toArray⟩ := ⟨_, rfl⟩
        have hTl : T.data.toList = M.txt l0 := by rw [hT]
        have hUl : U.data.toList = M.txt l1 := by rw [hU]
        have hTs : T.size = (M.txt l0).length := by rw [B.bdl, hTl]
        have hUs : U.size = (M.txt l1).length := by rw [B.bdl, hUl]
        have hTU : (T ++ U).data.toList = M.txt (l0 ++ l1) := by rw [M.txt_append]; simp [hTl, hUl]
        have hcount := M.txt_count okk
        have hc0 := M.txt_count ok0
        have hrows := M.rows_txt (l0 ++ l1) okk bb 0 []
        rw [List.append_nil] at hrows
        have hr : M.rows [] 0 (M.txt (l0 ++ l1)) = .inr (l0 ++ l1) := by rw [hrows]; simp [M.rows, M.moreL]
        have hlen2 : (l0 ++ l1).length = l0.length + l1.length := List.length_append
        have cR : ∀ w', B.Nm w' → Calls Tryd.prog 14 #[.string (T ++ U)] w' fun e w'' => ∃ g cap, e = .returned (.tuple #[.slice (some ⟨g, 0, none⟩) (l0.length + l1.length) cap, .int .i64 0, .int .i64 0]) ∧ B.Lies w'' (some ⟨g, 0, none⟩) (l0 ++ l1) ∧ Below w'.heap.size w' w'' := by
          intro w' hw
          have := B.aread_rows (T ++ U) (by rw [hTU]; intro e; rw [e] at hcount; simp at hcount; omega) (by rw [ByteArray.size_append]; omega) (by rw [hTU, hcount]; omega) w' hw
          rw [hTU, hr] at this
          refine this.mono ?_
          rintro e w'' ⟨g, cap, h1, h2, h3⟩
          exact ⟨g, cap, by rw [← hlen2]; exact h1, h2, h3⟩
        simp only at cP cQ
        rw [← hT] at cP
        rw [← hU] at cQ
        have hb2 := bounds_i64 wf2
        rcases hl0 with hl | ⟨bk, o, rfl, hbk, hl⟩
        · exact absurd hl ne0
        · rcases hl1 with hl' | ⟨bk', o', rfl, hbk', hl'⟩
          · exact absurd hl' ne1
          · refine main_ bk o l0.length cap0 bk' o' l1.length cap1 n2 (by omega) l0 l1 T U w hN rfl rfl (by omega) (by omega) (by omega) (.inr ⟨bk, o, rfl, hbk, hl⟩) (.inr ⟨bk', o', rfl, hbk', hl'⟩) (by omega) (by omega) cP cQ cR ?_
            by_cases k1 : n2 < 0
            · exact Or.inl k1
            · by_cases k2 : (T.size : Int) ≤ n2
              · exact Or.inr (Or.inl ⟨k1, k2⟩)
              · right; right
                obtain ⟨k, rfl⟩ : ∃ k : Nat, n2 = k := ⟨n2.toNat, by omega⟩
                have hkT : k < T.size := by omega
                have hkl : k < (M.txt l0).length := by omega
                have hval : M.at_ T k = ((M.txt l0)[k].toNat : Int) := by
                  unfold M.at_
                  rw [hTl, List.getD_eq_getElem?_getD, List.getElem?_eq_getElem hkl]
                  rfl
                by_cases h10 : (M.txt l0)[k] = 10
                · exact ⟨k, _, ⟨#[]⟩, 0, rfl, hkT, fun W => B.index_at T k hkT _ rfl W, Or.inl (by rw [hval, h10]; rfl)⟩
                · obtain ⟨q, hq, hqk⟩ := cut_rows hkl h10
                  have hDl : (T.extract 0 (k + 1)).data.toList = (M.txt l0).take (k + 1) := by
                    rw [Lib.extract_eq, hTl]; simp
                  have hDs : (T.extract 0 (k + 1)).size ≤ 5600 := by rw [B.bdl, hDl, List.length_take]; omega
                  have hD0 : (T.extract 0 (k + 1)).data.toList ≠ [] := by
                    rw [hDl]
                    intro e
                    have h6 : ((M.txt l0).take (k + 1)).length = 0 := by rw [e]; rfl
                    rw [List.length_take] at h6
                    omega
                  have hDc : (T.extract 0 (k + 1)).data.toList.count 10 ≤ 4096 := by
                    rw [hDl]
                    have := (List.take_sublist (k + 1) (M.txt l0)).count_le (10 : UInt8)
                    omega
                  refine ⟨k, _, T.extract 0 (k + 1), q, rfl, hkT, fun W => B.index_at T k hkT _ rfl W, Or.inr ⟨?_, hqk, ?_, ?_, ?_⟩⟩
                  · rw [hval, beq_eq_false_iff_ne]
                    intro e
                    exact h10 (UInt8.toNat_inj.1 (by show (M.txt l0)[k].toNat = 10; omega))
                  · intro W
                    rw [run_slice_string_to_if W 9 T .i64 ((k : Int) + 1) Tryd.underlying9, if_pos (by omega)]
                    congr 3
                  · intro w' hw
                    have := B.aread_rows _ hD0 (by omega) hDc w' hw
                    rw [hDl, hq] at this
                    exact this
                  · intro w'
                    have := B.tread_rows _ hD0 (by omega) hDc w'
                    rw [hDl, hq] at this
                    exact this
      · rw [if_pos b0] at p0
        rw [if_neg b1] at p1
        rw [p0] at cP
        rw [p1] at cQ
        exact bad_ a0 a1 l0.length cap0 l1.length cap1 n2 _ _ _ _ w hN (by omega) (by omega) (by omega) cP cQ (Or.inr ⟨rfl, by simpa using b1⟩)
    · rw [if_neg b0] at p0
      rw [p0] at cP
      exact bad_ a0 a1 l0.length cap0 l1.length cap1 n2 _ _ _ _ w hN (by omega) (by omega) (by omega) cP cQ (Or.inl (by simpa using b0))

set_option maxRecDepth 100000 in
theorem lifted (os : Os) (started : os.Started) (H : Type) (enc : TypeId × Value → H) :
    ReturnsInHanded {} Tryd.checked os 8 .any (fun w args => (Rows.asmJoinsSpec.pre enc Tryd.prog Tryd.f8 [] false w args ∧ laidMetH Tryd.prog B.laidL w) ∧ sizedMet enc Tryd.prog Tryd.f8 (OpenSpec.ofChange Rows.asmJoinsSpec) false w args)
      (Rows.asmJoinsSpec.post enc Tryd.prog Tryd.f8 false true false false) := by
  refine returnsInHanded_of_change_and (C := Tryd.checked) (X := fun w _ => laidMetH Tryd.prog B.laidL w) (fun _ _ _ hh h => h.of_heap hh) own started (by kernel_rfl) Tryd.func8
    (ChangeSpec.witness_shaped (enc := enc) (C := Tryd.checked) (os := os) (X := fun w _ => laidMetH Tryd.prog B.laidL w) false (World.doorLaid Tryd.prog 400 os) #[.slice none 0 0, .slice none 0 0, .int .i64 0] 8 rfl (World.shaped_of_RefB (by kernel_rfl) (by kernel_rfl)) (by kernel_rfl) (by kernel_rfl) (by kernel_rfl) (B.door_met os _)) ?_
  intro W base args ds gs before hval0 hW _ hsz0 hL _
  have hsz : (DataW.weightsEach Tryd.prog (Tryd.f8.params.toList ++ Rows.asmJoinsSpec.plain.varTypes Tryd.prog) (ds ++ gs)).all (· ≤ reachBytes) = true := hsz0
  have hval : ∀ (j : Nat) t v, Tryd.f8.params[j]? = some t → args[j]? = some v → Value.okWide Tryd.prog W .any base t v := hval0
  have hW' := hW
  obtain ⟨p, q, hA0, hV, rfl, hfz, hnd⟩ := hW
  have hA : DataW.TrodAll enc Tryd.prog W 0 (fun _ => true) true Tryd.f8.params.toList args.toList ds p := hA0
  rw [Tryd.params8] at hA hval hsz
  obtain ⟨v0, vs0, d0, ds0, p0, q0, hargs, rfl, rfl, h0, r0⟩ := trodAll_cons hA
  obtain ⟨v1, vs1, d1, ds1, p1, q1, rfl, rfl, rfl, h1, r1⟩ := trodAll_cons r0
  obtain ⟨v2, vs2, d2, ds2, p2, q2, rfl, rfl, rfl, h2, r2⟩ := trodAll_cons r1
  obtain ⟨rfl, rfl, rfl⟩ := trodAll_nil r2
  obtain rfl : args = #[v0, v1, v2] := by cases args; simp_all
  obtain ⟨rfl, rfl⟩ := trodVars_none hV
  obtain ⟨a0, cap0, l0, rfl, hn0, hm0, hl0, ok0, _⟩ := B.arg_list (hval 0 37 v0 rfl rfl) h0
  obtain ⟨a1, cap1, l1, rfl, hn1, hm1, hl1, ok1, _⟩ := B.arg_list (hval 1 37 v1 rfl rfl) h1
  obtain ⟨n2, rfl, hd2, hp2, wf2⟩ := open_int Tryd.underlying3 (hval 2 3 v2 rfl rfl) h2
  clear hA0 hval0
  simp only [List.append_nil] at hW'
  have hlt0 : ∀ x ∈ p0, x.block < W.heap.size := fun x hx => by simpa using hW'.lt x (by simp [hx])
  have hlt1 : ∀ x ∈ p1, x.block < W.heap.size := fun x hx => by simpa using hW'.lt x (by simp [hx])
  have hlt2 : ∀ x ∈ p2, x.block < W.heap.size := fun x hx => by simpa using hW'.lt x (by simp [hx])
  have hr0 : l0.length * 8 ≤ 140737488351232 := by
    rcases B.list_size h0 with h | ⟨E, S, hd, hel⟩
    · omega
    · have := sized_slice hsz (j := 0) (t := 37) (e := 25) (elems := E) (spare := S) rfl (by rw [hd]; rfl) Tryd.underlying37
      rw [B.bytes39] at this
      simp only [reachBytes] at this
      omega
  have hr1 : l1.length * 8 ≤ 140737488351232 := by
    rcases B.list_size h1 with h | ⟨E, S, hd, hel⟩
    · omega
    · have := sized_slice hsz (j := 1) (t := 37) (e := 25) (elems := E) (spare := S) rfl (by rw [hd]; rfl) Tryd.underlying37
      rw [B.bytes39] at this
      simp only [reachBytes] at this
      omega
  refine (walk a0 cap0 l0 hn0 hm0 ok0 hr0 a1 cap1 l1 hn1 hm1 ok1 hr1 n2 wf2 W (B.of_laid hL) hl0 hl1).mono fun e W' ⟨he, hg⟩ => ?_
  subst he
  exact ⟨_, rfl, _, _, _, [], (p0 ++ (p1 ++ (p2 ++ []))), [], hW', (trodAll_cons_mk (shut_bool Tryd.underlying4 _) trodAll_mk0), (trodAll_cons_mk (Below.trod laidOut (by kernel_rfl) (of_decide_eq_true (by kernel_rfl)) h0 hg hlt0) (trodAll_cons_mk (Below.trod laidOut (by kernel_rfl) (of_decide_eq_true (by kernel_rfl)) h1 hg hlt1) (trodAll_cons_mk (Below.trod laidOut (by kernel_rfl) (of_decide_eq_true (by kernel_rfl)) h2 hg hlt2) trodAll_mk0))), rfl, hg.frame _, fun h => by cases h⟩

theorem over : Rows.asmJoinsRow.holds Tryd.pinned (OpenSpec.ofChange Rows.asmJoinsSpec) :=
  OpenClaim.holds_of_wide 8 Tryd.f8 rfl rfl rfl rfl rfl rfl rfl ⟨rfl, rfl, rfl, rfl, rfl⟩ rfl rfl rfl rfl rfl (by kernel_rfl) Tryd.func8 (by kernel_rfl)
    (of_decide_eq_true (by kernel_rfl)) (by unfold Func.isWrapper; first | (rw [if_pos (by decide +kernel)]; kernel_rfl) | (rw [if_neg (by decide +kernel)]; exact ⟨rfl, rfl⟩))
    (fun os started H enc _ => lifted os started H enc)

theorem proved : Rows.AsmJoinsCardSaid :=
  Claim7.holds_tied_plain_at .later [] [.data, .data, .data, .sentinel, .sentinel] true (true, "058f8c6c10db4b7d94f8f322adace66690a8fd2e27c19ca23c17c710e3ff2ac4") true
    over (fun _ h => by cases h) (by kernel_rfl) (fun _ h => by cases h) asmJoins_row_tie rfl ⟨rfl, rfl⟩ (by kernel_rfl) rfl
    (fun f fn hf hfn => by
      obtain rfl : f = 8 := Option.some.inj ((show Tryd.prog.funcNamed "tamis/tamislaw05.AsmJoins" = some 8 by kernel_rfl).symm.trans hf) |>.symm
      obtain rfl : fn = Tryd.f8 := (Option.some.inj (Tryd.func8.symm.trans hfn)).symm
      exact ⟨by kernel_rfl, fun j t ht => by
        rw [Tryd.params8] at ht
        have hm : t ∈ [37, 37, 3] := by simpa using Array.mem_of_getElem? ht
        have hall : ([37, 37, 3].all fun u => !Tryd.prog.wantsStandIn u) = true := by kernel_rfl
        exact (show Tryd.prog.wantsStandIn t = false by simpa using List.all_eq_true.1 hall t hm)⟩)
    (by kernel_rfl)
#print axioms proved
end Go.Proofs.YtapjjpjiggjlfaaDoor.asmJoins
