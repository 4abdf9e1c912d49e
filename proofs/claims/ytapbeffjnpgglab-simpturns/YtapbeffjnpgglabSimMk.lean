/-
  The program's Make, Number, Word of layer 12, as walks over the Go text.
-/
import Derived.Test.YtapbeffjnpgglabSC2
import Derived.Test.YtapbeffjnpgglabSimAwk
namespace Go.Proofs.Ytapbeffjnpgglab.TB
open Go.ChangeShapes Go.WideShapes Go.ChangeAt Go.RowKit
open Go.Sort hiding Below
set_option linter.unusedVariables false
set_option maxRecDepth 100000

theorem pl_ptr {W : World} {F : Nat → Prop} {v : Value} {L : List TM.N} (h : Pl W F v L) : ∃ pb, v = .pointer (some ⟨pb, 0, none⟩) := by
  obtain ⟨b, a, c, mo, hv, _, _⟩ := h
  exact ⟨b, hv⟩
/-- At, wherever -/
theorem pl_at (L : List TM.N) (i : Int) (hw : (Lit.int .i64 i).wf = true) : ∃ (o a b k : Int) (q : Bool), (q = true ↔ 0 ≤ i ∧ i < (L.length : Int)) ∧ ∀ (W : World) (F : Nat → Prop) (v : Value), Pl W F v L →
    Calls Try.prog 12 #[v, .int .i64 i] W fun e w' => e = .returned (.tuple #[.agg #[.int .i64 o, .int .i64 a, .int .i64 b, .int .u32 k], .bool q]) ∧ Below W.heap.size W w' := by
  by_cases h : 0 ≤ i ∧ i < (L.length : Int)
  · obtain ⟨n, rfl⟩ : ∃ n : Nat, i = n := ⟨i.toNat, by omega⟩
    have hn : n < L.length := by omega
    refine ⟨L[n].1, L[n].2.1, L[n].2.2.1, L[n].2.2.2, true, ⟨fun _ => h, fun _ => rfl⟩, fun W F v hP => ?_⟩
    exact pl_has W F v L n hP hn _ _ _ _ rfl
  · refine ⟨0, 0, 0, 0, false, ⟨fun e => (by cases e), fun e => absurd e h⟩, fun W F v hP => ?_⟩
    exact pl_none W F v L i hP (by omega) hw

set_option maxHeartbeats 3200000 in
theorem sk_arg : SkArg Pl := by
  intro W F v L op a b hP ho hw1 hw2 hw3
  obtain ⟨pb, rfl⟩ := pl_ptr hP
  have HA := hid (WB.alu_any op 0 1 (by omega) (by omega) (by omega) W)
  rw [ok_isOp, ho] at HA
  have HB := hid (Below.refl W.heap.size W)
  clear hP ho hw1 hw2 hw3
  go_enter Try.func9, Try.ntmps9
  go_wp2_with (go_at_call 19; refine HA.out.mono ?_; rintro e w1 ⟨rfl, rfl⟩; clear HA)
  go_ret2
  exact ⟨rfl, HB.out⟩
set_option maxHeartbeats 3200000 in
theorem sk_nil : SkNil := by
  intro W op a b
  have HB := hid (Below.refl W.heap.size W)
  go_enter Try.func9, Try.ntmps9
  go_wp2
  go_ret2
  exact ⟨rfl, HB.out⟩

set_option maxHeartbeats 3200000 in
theorem sk_no1 (W : World) (F : Nat → Prop) (pb : Nat) (L : List TM.N) (op a b : Int) (hP : Pl W F (.pointer (some ⟨pb, 0, none⟩)) L) (ho : TM.isOp op = true) (oa aa ba ka : Int)
    (hA : ∀ W F v, Pl W F v L → Calls Try.prog 12 #[v, .int .i64 a] W fun e w' => e = .returned (.tuple #[.agg #[.int .i64 oa, .int .i64 aa, .int .i64 ba, .int .u32 ka], .bool false]) ∧ Below W.heap.size W w') :
    Calls Try.prog 9 #[.pointer (some ⟨pb, 0, none⟩), .int .i64 op, .int .i64 a, .int .i64 b] W fun e w' => e = .returned (.tuple #[.int .i64 0, .int .i64 2]) ∧ Below W.heap.size W w' := by
  have HA := hid (WB.alu_any op 0 1 (by omega) (by omega) (by omega) W)
  rw [ok_isOp, ho] at HA
  have H1 := hid (hA W F _ hP)
  clear hP ho hA
  go_enter Try.func9, Try.ntmps9
  go_wp2_with (first
    | (go_at_call 19; refine HA.out.mono ?_; rintro e w1 ⟨rfl, rfl⟩; clear HA)
    | (go_at_call 12; refine H1.out.mono ?_; rintro e w2 ⟨rfl, hb⟩; have HB := stp (hid hb) (al w2 (.cells #[.int .i64 oa, .int .i64 aa, .int .i64 ba, .int .u32 ka] 40)); clear hb H1))
  go_ret2
  exact ⟨rfl, HB.out⟩
set_option maxHeartbeats 3200000 in
theorem sk_no2 (W : World) (F : Nat → Prop) (pb : Nat) (L : List TM.N) (op a b : Int) (hP : Pl W F (.pointer (some ⟨pb, 0, none⟩)) L) (ho : TM.isOp op = true) (ho2 : op ≠ 128) (oa aa ba ka ob ab bb kb : Int)
    (hA : ∀ W F v, Pl W F v L → Calls Try.prog 12 #[v, .int .i64 a] W fun e w' => e = .returned (.tuple #[.agg #[.int .i64 oa, .int .i64 aa, .int .i64 ba, .int .u32 ka], .bool true]) ∧ Below W.heap.size W w')
    (hB : ∀ W F v, Pl W F v L → Calls Try.prog 12 #[v, .int .i64 b] W fun e w' => e = .returned (.tuple #[.agg #[.int .i64 ob, .int .i64 ab, .int .i64 bb, .int .u32 kb], .bool false]) ∧ Below W.heap.size W w') :
    Calls Try.prog 9 #[.pointer (some ⟨pb, 0, none⟩), .int .i64 op, .int .i64 a, .int .i64 b] W fun e w' => e = .returned (.tuple #[.int .i64 0, .int .i64 2]) ∧ Below W.heap.size W w' := by
  have HA := hid (WB.alu_any op 0 1 (by omega) (by omega) (by omega) W)
  rw [ok_isOp, ho] at HA
  have H1 := hid (hA W F _ hP)
  have H2 := hid (show ∀ w1, Below W.heap.size W w1 → _ from fun w1 hb => hB w1 F _ (pl_below hP hb))
  have d1 : (op != 128) = true := bne_iff_ne.2 ho2
  clear hP ho hA hB ho2
  go_enter Try.func9, Try.ntmps9
  go_wp2_with (first
    | (go_at_call 19; refine HA.out.mono ?_; rintro e w1 ⟨rfl, rfl⟩; clear HA)
    | (go_at_call 12; refine H1.out.mono ?_; rintro e w2 ⟨rfl, hb⟩; have HB := stp (hid hb) (al w2 (.cells #[.int .i64 oa, .int .i64 aa, .int .i64 ba, .int .u32 ka] 40)); clear hb H1)
    | (go_at_call 12; refine (H2.out _ HB.out).mono ?_; rintro e w3 ⟨rfl, hb⟩; have HB3 := stp (stp HB hb) (al w3 (.cells #[.int .i64 ob, .int .i64 ab, .int .i64 bb, .int .u32 kb] 40)); clear hb H2 HB))
  go_ret2
  exact ⟨rfl, HB3.out⟩
/-- Make, where both places are there (of the other sign: the first one) -/
theorem sk_go_c (q : Bool) (op : Int) (h : q = true ∨ op = 128) : (if (!q) = true then (op != 128) else false) = false := by
  rcases h with rfl | rfl
  · rfl
  · cases q <;> rfl
set_option maxHeartbeats 3200000 in
theorem sk_go (W : World) (F : Nat → Prop) (pb : Nat) (L : List TM.N) (op a b : Int) (hP : Pl W F (.pointer (some ⟨pb, 0, none⟩)) L) (ho : TM.isOp op = true) (oa aa ba ka ob ab bb kb : Int) (q : Bool) (hq : q = true ∨ op = 128)
    (hA : ∀ W F v, Pl W F v L → Calls Try.prog 12 #[v, .int .i64 a] W fun e w' => e = .returned (.tuple #[.agg #[.int .i64 oa, .int .i64 aa, .int .i64 ba, .int .u32 ka], .bool true]) ∧ Below W.heap.size W w')
    (hB : ∀ W F v, Pl W F v L → Calls Try.prog 12 #[v, .int .i64 b] W fun e w' => e = .returned (.tuple #[.agg #[.int .i64 ob, .int .i64 ab, .int .i64 bb, .int .u32 kb], .bool q]) ∧ Below W.heap.size W w') (t : TM.Tr)
    (hR : ∀ w1, Pl w1 F (.pointer (some ⟨pb, 0, none⟩)) L → Calls Try.prog 20 #[.iface 29 (.pointer (some ⟨pb, 0, none⟩)), .int .i64 op, .int .i64 a, .int .i64 b] w1 fun e w' => PoolAt Pl w1 F (.pointer (some ⟨pb, 0, none⟩)) L t 2 e w') :
    Calls Try.prog 9 #[.pointer (some ⟨pb, 0, none⟩), .int .i64 op, .int .i64 a, .int .i64 b] W fun e w' => PoolAt Pl W F (.pointer (some ⟨pb, 0, none⟩)) L t 2 e w' := by
  have HA := hid (WB.alu_any op 0 1 (by omega) (by omega) (by omega) W)
  rw [ok_isOp, ho] at HA
  have H1 := hid (hA W F _ hP)
  have H2 := hid (show ∀ w1, Below W.heap.size W w1 → _ from fun w1 hb => hB w1 F _ (pl_below hP hb))
  have H3 := hid (show ∀ w1, Below W.heap.size W w1 → _ from fun w1 hb => hR w1 (pl_below hP hb))
  clear hP ho hA hB hR
  rcases hq with rfl | rfl
  · go_enter Try.func9, Try.ntmps9
    go_wp2_with (first
      | (go_at_call 19; refine HA.out.mono ?_; rintro e w1 ⟨rfl, rfl⟩; clear HA)
      | (go_at_call 12; refine H1.out.mono ?_; rintro e w2 ⟨rfl, hb⟩; have HB := stp (hid hb) (al w2 (.cells #[.int .i64 oa, .int .i64 aa, .int .i64 ba, .int .u32 ka] 40)); clear hb H1)
      | (go_at_call 12; refine (H2.out _ HB.out).mono ?_; rintro e w3 ⟨rfl, hb⟩; have HB3 := stp (stp HB hb) (al w3 (.cells #[.int .i64 ob, .int .i64 ab, .int .i64 bb, .int .u32 kb] 40)); clear hb H2 HB)
      | (go_at_call 20; refine (H3.out _ HB3.out).mono ?_; rintro e w4 hZ; replace hZ := PoolAt.below HB3.out hZ; obtain ⟨F9, L9, p9, rfl, hZ⟩ := hZ; have HZ := hid hZ; clear hZ HB3 H3))
    go_ret2
    exact ⟨F9, L9, p9, rfl, HZ.out⟩
  · cases q
    all_goals
      go_enter Try.func9, Try.ntmps9
      go_wp2_with (first
        | (go_at_call 19; refine HA.out.mono ?_; rintro e w1 ⟨rfl, rfl⟩; clear HA)
        | (go_at_call 12; refine H1.out.mono ?_; rintro e w2 ⟨rfl, hb⟩; have HB := stp (hid hb) (al w2 (.cells #[.int .i64 oa, .int .i64 aa, .int .i64 ba, .int .u32 ka] 40)); clear hb H1)
        | (go_at_call 12; refine (H2.out _ HB.out).mono ?_; rintro e w3 ⟨rfl, hb⟩; have HB3 := stp (stp HB hb) (al w3 (.cells #[.int .i64 ob, .int .i64 ab, .int .i64 bb, .int .u32 kb] 40)); clear hb H2 HB)
        | (go_at_call 20; refine (H3.out _ HB3.out).mono ?_; rintro e w4 hZ; replace hZ := PoolAt.below HB3.out hZ; obtain ⟨F9, L9, p9, rfl, hZ⟩ := hZ; have HZ := hid hZ; clear hZ HB3 H3))
      go_ret2
      exact ⟨F9, L9, p9, rfl, HZ.out⟩
theorem sk_range : SkRange Pl := by
  intro W F v L op a b hP h3 ho hw1 hw2 hr
  obtain ⟨pb, rfl⟩ := pl_ptr hP
  obtain ⟨oa, aa, ba, ka, qa, hqa, hA⟩ := pl_at L a hw1
  obtain ⟨ob, ab, bb, kb, qb, hqb, hB⟩ := pl_at L b hw2
  cases qa with
  | false => exact sk_no1 W F pb L op a b hP ho oa aa ba ka hA
  | true =>
    have ha := hqa.1 rfl
    have hb : op ≠ 128 ∧ qb = false := by
      rcases hr with h | ⟨h1, h2⟩
      · omega
      · refine ⟨h1, ?_⟩
        cases qb with
        | false => rfl
        | true => have := hqb.1 rfl; omega
    obtain ⟨h1, rfl⟩ := hb
    exact sk_no2 W F pb L op a b hP ho h1 oa aa ba ka ob ab bb kb hA hB
theorem sk_ok : SkOk Pl := by
  intro W F v L op a b bI hP h1 h2 h3 hn ho ha hb hw
  obtain ⟨pb, rfl⟩ := pl_ptr hP
  obtain ⟨oa, aa, ba, ka, qa, hqa, hA⟩ := pl_at L a (wfs (by omega))
  obtain ⟨ob, ab, bb, kb, qb, hqb, hB⟩ := pl_at L bI hw
  obtain rfl : qa = true := hqa.2 (by omega)
  by_cases e : op = 128
  · subst e
    exact (sk_go W F pb L 128 a bI hP ho oa aa ba ka ob ab bb kb qb (.inr rfl) hA hB _ (fun w1 h => cby1P w1 F _ L h h1 h2 h3 (by omega) a ha (TM.tr L b) bI)).mono (fun e w' h => h.mono (by omega))
  · obtain ⟨hb1, rfl⟩ := hb e
    obtain rfl : qb = true := hqb.2 (by omega)
    exact (sk_go W F pb L op a b hP ho oa aa ba ka ob ab bb kb true (.inl rfl) hA hB _ (fun w1 h => cby2P w1 F _ L h h1 h2 h3 (by omega) op ho e a b ha hb1)).mono (fun e w' h => h.mono (by omega))

set_option maxHeartbeats 3200000 in
theorem sb_ok : SbOk Pl := by
  intro W F v L k hP h1 h2 h3 hn hk
  have HN := hid (cnumberP W F v L hP h1 h2 h3 (by omega) k hk)
  clear hP h1 h2 h3 hn hk
  go_enter Try.func8, Try.ntmps8
  go_wp2_with (go_at_call 18; refine HN.out.mono ?_; rintro e w1 ⟨F9, L9, p9, rfl, hZ⟩; have HZ := hid hZ; clear hZ HN)
  go_ret2
  exact ⟨F9, L9, p9, rfl, HZ.out⟩
set_option maxHeartbeats 3200000 in
theorem sw_ok : SwOk Pl := by
  intro W F v L k hP h1 h2 h3 hn hk
  obtain ⟨pb, rfl⟩ := pl_ptr hP
  have hm : TM.may (2, 0, 0, (k : Int)) L.length = true := by
    rw [TM.may_word (x := (2, 0, 0, (k : Int))) rfl]
    have e : decide (((2, 0, 0, (k : Int)) : TM.N).2.2.2 ≤ 15) = true := decide_eq_true (by show (k : Int) ≤ 15; omega)
    rw [e]; rfl
  have hq := qputP W F _ L hP h1 h2 h3 (by omega) 2 0 0 k (by unfold TM.okN; dsimp only; omega) hm
  rw [TM.trN_word (x := (2, 0, 0, (k : Int))) rfl] at hq
  simp only [Int.toNat_natCast] at hq
  have HN := hid hq
  have e1 : IntKind.u32.wrap (k : Int) = (k : Int) := Go.IntWalk.u32_in _ (by omega)
  have d1 : decide ((k : Int) < 0) = false := decide_eq_false (by omega)
  have d2 : decide (16 ≤ (k : Int)) = false := decide_eq_false (by omega)
  clear hP h1 h2 h3 hn hk hm hq
  go_enter Try.func11, Try.ntmps11
  go_wp2_with (go_at_call 17; refine HN.out.mono ?_; rintro e w1 ⟨F9, L9, p9, rfl, hZ⟩; have HZ := hid hZ; clear hZ HN)
  go_ret2
  exact ⟨F9, L9, p9, rfl, HZ.out⟩
end Go.Proofs.Ytapbeffjnpgglab.TB
