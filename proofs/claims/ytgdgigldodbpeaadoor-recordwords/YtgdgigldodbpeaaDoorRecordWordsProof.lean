/-
  For every two records, both are the same just if they have the same fields, and just if they have the same bytes; a record is all its fields; no condition.
-/
import Derived.Test.YtgdgigldodbpeaaDoorRows
import Derived.WalkKit
import Derived.ProofKit
import Derived.OpenShut
import Derived.Carry
import Derived.Test.YtgdgigldodbpeaaDoorTie
import Derived.Test.YtgdgigldodbpeaaDoorCards
import Derived.SevenTiedAt
import Derived.Test.YtgdgigldodbpeaaDoorRecAwake
import Derived.Test.YtgdgigldodbpeaaDoorRecLaid
import Derived.Test.YtgdgigldodbpeaaDoorRecArgs
import Derived.Deep.MidRow
namespace Go.Proofs.YtgdgigldodbpeaaDoor.recordWords
open Go.ChangeShapes Go.WideShapes Go.ChangeAt Go.RowKit
set_option linter.unusedVariables false

theorem own : ownKnob Tryd.prog.godebug = none := by kernel_rfl
theorem laidOut : laidOutB Tryd.prog = true := by kernel_rfl
/-- whether the first k fields of both are the same -/
def sm (a b : List Int) : Nat → Bool
  | 0 => true
  | k + 1 => sm a b k && (M.field a k == M.field b k)
theorem sm_all (a b : List Int) (ha : M.okR a) (hb : M.okR b) : sm a b 9 = decide (a = b) := by
  have key : ∀ k, sm a b k = true ↔ ∀ f : Nat, f < k → M.field a f = M.field b f := by
    intro k
    induction k with
    | zero => exact ⟨fun _ f hf => absurd hf (Nat.not_lt_zero _), fun _ => rfl⟩
    | succ k ih =>
      show (sm a b k && (M.field a k == M.field b k)) = true ↔ _
      rw [Bool.and_eq_true, ih, beq_iff_eq]
      constructor
      · rintro ⟨h1, h2⟩ f hf
        by_cases e : f = k
        · rw [e]; exact h2
        · exact h1 f (by omega)
      · intro h
        exact ⟨fun f hf => h f (by omega), h k (by omega)⟩
  by_cases e : a = b
  · rw [decide_eq_true e]
    exact (key 9).2 fun f _ => by rw [e]
  · rw [decide_eq_false e]
    rcases h : sm a b 9 with _ | _
    · rfl
    · exact absurd (M.fields_all ha hb fun f hf => (key 9).1 h f hf) e

/-- what a world keeps -/
def Q (w : World) (a b c : List Int) (w' : World) : Prop := B.Nm w' ∧ B.Rec w' w.heap.size a ∧ B.Rec w' (w.heap.size + 1) b ∧ B.Rec w' (w.heap.size + 2) c ∧ Below w.heap.size w w'
theorem Q.below {w w' w'' : World} {a b c : List Int} (h : Q w a b c w') (hB : Below w'.heap.size w' w'') : Q w a b c w'' :=
  ⟨h.1.below hB (Nat.lt_of_le_of_lt (Nat.zero_le _) h.2.1.lt), h.2.1.below hB h.2.1.lt, h.2.2.1.below hB h.2.2.1.lt, h.2.2.2.1.below hB h.2.2.2.1.lt, h.2.2.2.2.trans (hB.mono h.2.2.2.2.size)⟩
theorem Q.drew {w w' : World} {a b c : List Int} (h : Q w a b c w') : Q w a b c w'.drew := ⟨h.1, h.2.1, h.2.2.1, h.2.2.2.1, h.2.2.2.2.drew⟩
/-- the same, with what it reads as -/
def S (w : World) (a b c : List Int) (w' : World) : Prop :=
  (B.lcf w.heap.size 16).run Tryd.prog w' = .ok (B.enc a) w' ∧ (B.lcf (w.heap.size + 1) 16).run Tryd.prog w' = .ok (B.enc b) w' ∧ (B.lcf (w.heap.size + 2) 16).run Tryd.prog w' = .ok (B.enc c) w' ∧ Hid (Q w a b c w')
theorem range_rec {W : World} {b : Nat} {l : List Int} (h : B.Rec W b l) : W.rangeAt b 0 (B.enc l).toList := fun j v hv => by
  rw [Nat.zero_add, cell_of_row W b j (B.enc l) _ (0, 0) h.1, ← Array.getElem?_toList]
  exact hv
theorem Q.r {w w' : World} {a b c : List Int} (h : Q w a b c w') : w'.rangeAt w.heap.size 0 (B.enc a).toList ∧ w'.rangeAt (w.heap.size + 1) 0 (B.enc b).toList ∧ w'.rangeAt (w.heap.size + 2) 0 (B.enc c).toList ∧ Hid (Q w a b c w') :=
  ⟨range_rec h.2.1, range_rec h.2.2.1, range_rec h.2.2.2.1, h⟩
theorem Q.s {w w' : World} {a b c : List Int} (h : Q w a b c w') : S w a b c w' := ⟨h.2.1.load, h.2.2.1.load, h.2.2.2.1.load, h⟩
theorem q_store {w w' : World} {a b c m : List Int} (h : Q w a b c w') (hm : m.length = 16) :
    ∃ W2, (storeCells ⟨w.heap.size + 2, 0, none⟩ (B.enc m).toList 0).run Tryd.prog w' = .ok () W2 ∧ Q w a b m W2 := by
  obtain ⟨W2, hst, hR, hO, hsz, hB⟩ := h.2.2.2.1.store (m := m) hm
  have hB1 : Below (w.heap.size + 2) w' W2 := hB _ _ (Nat.le_refl _) (Below.refl _ _)
  exact ⟨W2, hst, h.1.below hB1 (by omega), hO _ _ (by omega) h.2.1, hO _ _ (by omega) h.2.2.1, hR, hB _ _ (by omega) h.2.2.2.2⟩

set_option maxHeartbeats 6400000 in
set_option maxRecDepth 1000000 in
theorem core (a b : List Int) (oka : M.okR a) (okb : M.okR b) (w : World) (hN : B.Nm w) :
    Calls Tryd.prog 6 #[.agg (B.enc a), .agg (B.enc b)] w fun e w' => e = .returned (.bool true) ∧ Below w.heap.size w w' := by
  have hX := B.lcf_eq
  have hz := B.zero_lit
  have hzs := B.zero_size
  have h0 : Below w.heap.size w (w.alloc (.cells (B.enc a) 24)) := (Below.refl _ w).alloc (Nat.le_refl _) _
  obtain ⟨w0, hw0⟩ : ∃ w0, (w.alloc (.cells (B.enc a) 24)).alloc (.cells (B.enc b) 24) = w0 := ⟨_, rfl⟩
  have hB0 : Below w.heap.size w w0 := by rw [← hw0]; exact h0.alloc (by simp) _
  have hRa : B.Rec w0 w.heap.size a := by rw [← hw0]; exact (B.Rec.new w a oka.1).alloc _
  have hRb : B.Rec w0 (w.heap.size + 1) b := by
    rw [← hw0]
    have := B.Rec.new (w.alloc (.cells (B.enc a) 24)) b okb.1
    simpa using this
  have hsz0 : w0.heap.size = w.heap.size + 2 := by rw [← hw0]; simp
  obtain ⟨w1, hst, hRc, hO1, hs1, hb1⟩ := B.new_rec w0 M.zero rfl
  rw [hsz0] at hst hRc hs1 hb1
  have HQ : Hid (Q w a b M.zero w1) := ⟨(hN.below hB0 hN.size).below hb1 (by omega), hO1 _ _ hRa, hO1 _ _ hRb, hRc, hB0.trans (hb1.mono (by omega))⟩
  clear h0 hB0 hRa hRb hRc hO1 hs1 hb1 hN
  go_enter Tryd.func6, Tryd.ntmps6
  go_wp2
  clear hst hw0 hsz0
  go_loopw [5, 15] (fun sv i wr => ∃ (k : Nat) (c : List Int), k ≤ 9 ∧ i = .int .i64 k ∧ sv = .bool (sm a b k) ∧ Hid (M.Upto a c k ∧ M.okR c) ∧ Hid (Q w a b c wr)) (fun _ i _ => 9 - (intOf i).toNat)
  case atStart => exact ⟨0, M.zero, Nat.zero_le _, rfl, rfl, ⟨M.upto_zero a, M.ok_zero⟩, HQ⟩
  case round =>
    clear HQ
    obtain ⟨k, c, hk, rfl, rfl, HU, HQ⟩ := hrel
    by_cases hlt : k < 9
    · have i1 : (k : Int) < 9 := by omega
      have hF : M.isF (k : Int) = true := decide_eq_true (by omega)
      have hfit := M.field_fits oka (k : Int) hF
      have HFb : Hid (0 ≤ M.field a (k : Int) ∧ M.field a (k : Int) < 18446744073709551616) := M.field_bd oka k
      have okc' := M.ok_with HU.out.2 (k : Int) (M.field a (k : Int)) HFb.out
      have HU2 : Hid (M.Upto a (M.with_ c (k : Int) (M.field a (k : Int))) (k + 1) ∧ M.okR (M.with_ c (k : Int) (M.field a (k : Int)))) := ⟨M.upto_next oka HU.out.2 k hlt HU.out.1, okc'⟩
      have HM : Hid (sm a b (k + 1) = (sm a b k && (M.field a k == M.field b k))) := rfl
      obtain ⟨hla, hlb, hlc, _⟩ := HQ.out.s
      obtain ⟨c2, hc2⟩ : ∃ c2, M.with_ c (k : Int) (M.field a (k : Int)) = c2 := ⟨_, rfl⟩
      rw [hc2] at HU2 okc'
      have hsc : (B.enc c2).size = 16 := B.enc_size okc'.1
      have HO : Hid (M.okR c2) := okc'
      clear okc'
      rcases hsm : sm a b k with _ | _
      all_goals
        go_wp2_with fail
        refine (B.field_any a oka _ _).mono ?_
        rintro e w2 ⟨rfl, hB⟩
        have HQ : Hid (Q w a b c w2) := HQ.out.below hB
        obtain ⟨hla, hlb, hlc, _⟩ := HQ.out.s
        clear hB
        go_wp2_with fail
        refine (B.field_any b okb _ _).mono ?_
        rintro e w3 ⟨rfl, hB⟩
        have HQ : Hid (Q w a b c w3) := HQ.out.below hB
        obtain ⟨hla, hlb, hlc, _⟩ := HQ.out.s
        clear hB
        go_wp2_with fail
        refine (B.with_any c HU.out.2 _ _ HFb.out _).mono ?_
        rintro e w4 ⟨rfl, hB⟩
        have HQ : Hid (Q w a b c w4) := HQ.out.below hB
        obtain ⟨w5, hst5, hD, _, _, hb5⟩ := B.new_rec w4 c2 HO.out.1
        have HQ : Hid (Q w a b c w5) := HQ.out.below hb5
        have hld := hD.load
        obtain ⟨w6, hst6, hQ6⟩ := q_store HQ.out HO.out.1
        have HQ : Hid (Q w a b c2 w6) := hQ6
        clear hB hD hb5 hQ6
        go_wp2
        go_roundw
        case rel => exact ⟨k + 1, c2, by omega, by go_num, by rw [HM.out, hsm]; rfl, HU2, HQ⟩
        case measure => simp [intOf]; omega
    · obtain rfl : k = 9 := by omega
      have hca : c = a := M.upto_all oka HU.out.2 HU.out.1
      rw [hca] at HQ
      clear hlt hk HU hca
      have hE := sm_all a b oka okb
      have hg := B.guard24
      have hez : ∀ W, (binOp .eql 24 (.agg (B.enc a)) (.agg (B.enc a))).run Tryd.prog W = .ok (.bool true) W := fun W => by rw [B.eql24 a a oka.1 oka.1 W]; simp
      have heq : ∀ W, (binOp .eql 24 (.agg (B.enc a)) (.agg (B.enc b))).run Tryd.prog W = .ok (.bool (decide (a = b))) W := fun W => B.eql24 a b oka.1 okb.1 W
      have hss : ((M.str (M.pr a)).toList == (M.str (M.pr b)).toList) = decide (a = b) := by
        by_cases e : a = b
        · rw [decide_eq_true e, e]; simp
        · rw [decide_eq_false e]
          exact beq_eq_false_iff_ne.2 fun h => e (M.pr_inj oka okb (B.toList_inj h))
      have HPa : Hid (∀ w : World, Calls Tryd.prog 24 #[.agg (B.enc a)] w fun e w' => e = .returned (.string (M.str (M.pr a))) ∧ Below w.heap.size w w') := fun w => B.print_any a oka w
      have HPb : Hid (∀ w : World, Calls Tryd.prog 24 #[.agg (B.enc b)] w fun e w' => e = .returned (.string (M.str (M.pr b))) ∧ Below w.heap.size w w') := fun w => B.print_any b okb w
      generalize M.str (M.pr a) = SA at *
      generalize M.str (M.pr b) = SB at *
      rcases hd : decide (a = b) with _ | _
      all_goals
        rw [hd] at hE heq hss
        clear hd
        go_wp2
        have hu := Tryd.underlying24
        have hua : (Tryd.prog.info? 24).map (·.size) = some (B.enc a).toList.length := by rw [B.size24, Array.length_toList, B.enc_size oka.1]
        have hub : (Tryd.prog.info? 24).map (·.size) = some (B.enc b).toList.length := by rw [B.size24, Array.length_toList, B.enc_size okb.1]
        refine wp_region_held_drew (S := fun w' => w'.rangeAt w.heap.size 0 (B.enc a).toList ∧ w'.rangeAt (w.heap.size + 1) 0 (B.enc b).toList ∧ w'.rangeAt (w.heap.size + 2) 0 (B.enc a).toList ∧ Hid (Q w a b a w')) (by kernel_rfl) (Q.drew HQ.out).r (fun hHeld => ?_)
        change wpAnyH _ _ _ _ _ 23 #[false, false, false, false, false, false, false, false, false, false, false, false, false, false, false, false, false, false, false, false, false, false, false] _ _
        refine wpAnyH_ready (rs := [0]) (by kernel_rfl) (by simp) ?_
        refine AllReadyH.cons rfl (fun K hK => ?_) AllReadyH.nil
        go_simp
        (try dsimp only at hHeld)
        obtain ⟨_, _, _, HQh⟩ := hHeld
        refine (B.awake_any _ HQh.out.1).mono ?_
        rintro e w' ⟨rfl, hB⟩
        have hR := (Q.below HQh.out hB).r
        clear HQh hB
        dsimp only
        refine hK.out _ _ ?_ (fun hHeld => ?_)
        · ((try dsimp only); exact hR)
        clear hK K
        refine wpAnyH_take (i := 1) (v := ?_) (by simp only [List.getElem?_toArray, List.getElem?_cons_succ, List.getElem?_cons_zero]; rfl) (by kernel_rfl) (by kernel_rfl) (by kernel_rfl) (by exact fun _ _ _ h => h) (Or.inl ⟨by rfl, ?_⟩) (by assumption) ?_
        rotate_left
        · (intro w hSw; (try dsimp only at hSw); go_simp; try with_reducible rfl)
        try simp only [Act.put, List.setIfInBounds_toArray, List.set_cons_zero, List.set_cons_succ]
        refine wpAnyH_take (i := 2) (v := ?_) (by simp only [List.getElem?_toArray, List.getElem?_cons_succ, List.getElem?_cons_zero]; rfl) (by kernel_rfl) (by kernel_rfl) (by kernel_rfl) (by exact fun _ _ _ h => h) (Or.inl ⟨by rfl, ?_⟩) (by assumption) ?_
        rotate_left
        · (intro w hSw; (try dsimp only at hSw); go_simp; try with_reducible rfl)
        try simp only [Act.put, List.setIfInBounds_toArray, List.set_cons_zero, List.set_cons_succ]
        refine wpAnyH_take (i := 3) (by simp only [List.getElem?_toArray, List.getElem?_cons_succ, List.getElem?_cons_zero]; rfl) (by kernel_rfl) (by kernel_rfl) (by kernel_rfl) (by exact fun _ _ _ h => h) (yieldsIf_load_mid (by rfl) 24 _ (by rfl) (w.heap.size) 0 (by rfl) ((B.enc a).toList) _ (fun _ h => h.1) hu rfl hua) (by assumption) ?_
        try simp only [Act.put, List.setIfInBounds_toArray, List.set_cons_zero, List.set_cons_succ, Array.toArray_toList]
        refine wpAnyH_take (i := 4) (by simp only [List.getElem?_toArray, List.getElem?_cons_succ, List.getElem?_cons_zero]; rfl) (by kernel_rfl) (by kernel_rfl) (by kernel_rfl) (by exact fun _ _ _ h => h) (yieldsIf_load_mid (by rfl) 24 _ (by rfl) (w.heap.size + 1) 0 (by rfl) ((B.enc b).toList) _ (fun _ h => h.2.1) hu rfl hub) (by assumption) ?_
        try simp only [Act.put, List.setIfInBounds_toArray, List.set_cons_zero, List.set_cons_succ, Array.toArray_toList]
        refine wpAnyH_take (i := 5) (v := ?_) (by simp only [List.getElem?_toArray, List.getElem?_cons_succ, List.getElem?_cons_zero]; rfl) (by kernel_rfl) (by kernel_rfl) (by kernel_rfl) (by exact fun _ _ _ h => h) (Or.inl ⟨by rfl, ?_⟩) (by assumption) ?_
        rotate_left
        · (intro w hSw; (try dsimp only at hSw); go_simp; try with_reducible rfl)
        try simp only [Act.put, List.setIfInBounds_toArray, List.set_cons_zero, List.set_cons_succ]
        refine wpAnyH_take (i := 6) (v := ?_) (by simp only [List.getElem?_toArray, List.getElem?_cons_succ, List.getElem?_cons_zero]; rfl) (by kernel_rfl) (by kernel_rfl) (by kernel_rfl) (by exact fun _ _ _ h => h) (Or.inl ⟨by rfl, ?_⟩) (by assumption) ?_
        rotate_left
        · (intro w hSw; (try dsimp only at hSw); go_simp; try with_reducible rfl)
        try simp only [Act.put, List.setIfInBounds_toArray, List.set_cons_zero, List.set_cons_succ]
        refine wpAnyH_take (i := 7) (v := ?_) (by simp only [List.getElem?_toArray, List.getElem?_cons_succ, List.getElem?_cons_zero]; rfl) (by kernel_rfl) (by kernel_rfl) (by kernel_rfl) (by exact fun _ _ _ h => h) (Or.inl ⟨by rfl, ?_⟩) (by assumption) ?_
        rotate_left
        · (intro w hSw; (try dsimp only at hSw); go_simp; try with_reducible rfl)
        try simp only [Act.put, List.setIfInBounds_toArray, List.set_cons_zero, List.set_cons_succ]
        refine wpAnyH_take (i := 8) (v := ?_) (by simp only [List.getElem?_toArray, List.getElem?_cons_succ, List.getElem?_cons_zero]; rfl) (by kernel_rfl) (by kernel_rfl) (by kernel_rfl) (by exact fun _ _ _ h => h) (Or.inl ⟨by rfl, ?_⟩) (by assumption) ?_
        rotate_left
        · (intro w hSw; (try dsimp only at hSw); go_simp; try with_reducible rfl)
        try simp only [Act.put, List.setIfInBounds_toArray, List.set_cons_zero, List.set_cons_succ]
        refine wpAnyH_take (i := 9) (by simp only [List.getElem?_toArray, List.getElem?_cons_succ, List.getElem?_cons_zero]; rfl) (by kernel_rfl) (by kernel_rfl) (by kernel_rfl) (by exact fun _ _ _ h => h) (yieldsIf_load_mid (by rfl) 24 _ (by rfl) (w.heap.size + 2) 0 (by rfl) ((B.enc a).toList) _ (fun _ h => h.2.2.1) hu rfl hua) (by assumption) ?_
        try simp only [Act.put, List.setIfInBounds_toArray, List.set_cons_zero, List.set_cons_succ, Array.toArray_toList]
        refine wpAnyH_take (i := 10) (by simp only [List.getElem?_toArray, List.getElem?_cons_succ, List.getElem?_cons_zero]; rfl) (by kernel_rfl) (by kernel_rfl) (by kernel_rfl) (by exact fun _ _ _ h => h) (yieldsIf_load_mid (by rfl) 24 _ (by rfl) (w.heap.size) 0 (by rfl) ((B.enc a).toList) _ (fun _ h => h.1) hu rfl hua) (by assumption) ?_
        try simp only [Act.put, List.setIfInBounds_toArray, List.set_cons_zero, List.set_cons_succ, Array.toArray_toList]
        refine wpAnyH_take (i := 11) (v := ?_) (by simp only [List.getElem?_toArray, List.getElem?_cons_succ, List.getElem?_cons_zero]; rfl) (by kernel_rfl) (by kernel_rfl) (by kernel_rfl) (by exact fun _ _ _ h => h) (Or.inl ⟨by rfl, ?_⟩) (by assumption) ?_
        rotate_left
        · (intro w hSw; (try dsimp only at hSw); go_simp; try with_reducible rfl)
        try simp only [Act.put, List.setIfInBounds_toArray, List.set_cons_zero, List.set_cons_succ]
        refine wpAnyH_take (i := 12) (v := ?_) (by simp only [List.getElem?_toArray, List.getElem?_cons_succ, List.getElem?_cons_zero]; rfl) (by kernel_rfl) (by kernel_rfl) (by kernel_rfl) (by exact fun _ _ _ h => h) (Or.inl ⟨by rfl, ?_⟩) (by assumption) ?_
        rotate_left
        · (intro w hSw; (try dsimp only at hSw); go_simp; try with_reducible rfl)
        try simp only [Act.put, List.setIfInBounds_toArray, List.set_cons_zero, List.set_cons_succ]
        refine wpAnyH_take (i := 13) (v := ?_) (by simp only [List.getElem?_toArray, List.getElem?_cons_succ, List.getElem?_cons_zero]; rfl) (by kernel_rfl) (by kernel_rfl) (by kernel_rfl) (by exact fun _ _ _ h => h) (Or.inl ⟨by rfl, ?_⟩) (by assumption) ?_
        rotate_left
        · (intro w hSw; (try dsimp only at hSw); go_simp; try with_reducible rfl)
        try simp only [Act.put, List.setIfInBounds_toArray, List.set_cons_zero, List.set_cons_succ]
        refine wpAnyH_take (i := 14) (by simp only [List.getElem?_toArray, List.getElem?_cons_succ, List.getElem?_cons_zero]; rfl) (by kernel_rfl) (by kernel_rfl) (by kernel_rfl) (by exact fun _ _ _ h => h) (yieldsIf_load_mid (by rfl) 24 _ (by rfl) (w.heap.size) 0 (by rfl) ((B.enc a).toList) _ (fun _ h => h.1) hu rfl hua) (by assumption) ?_
        try simp only [Act.put, List.setIfInBounds_toArray, List.set_cons_zero, List.set_cons_succ, Array.toArray_toList]
        refine wpAnyH_take (i := 16) (by simp only [List.getElem?_toArray, List.getElem?_cons_succ, List.getElem?_cons_zero]; rfl) (by kernel_rfl) (by kernel_rfl) (by kernel_rfl) (by exact fun _ _ _ h => h) (yieldsIf_load_mid (by rfl) 24 _ (by rfl) (w.heap.size + 1) 0 (by rfl) ((B.enc b).toList) _ (fun _ h => h.2.1) hu rfl hub) (by assumption) ?_
        try simp only [Act.put, List.setIfInBounds_toArray, List.set_cons_zero, List.set_cons_succ, Array.toArray_toList]
        refine wpAnyH_take (i := 19) (v := ?_) (by simp only [List.getElem?_toArray, List.getElem?_cons_succ, List.getElem?_cons_zero]; rfl) (by kernel_rfl) (by kernel_rfl) (by kernel_rfl) (by exact fun _ _ _ h => h) (Or.inl ⟨by rfl, ?_⟩) (by assumption) ?_
        rotate_left
        · (intro w hSw; (try dsimp only at hSw); go_simp; try with_reducible rfl)
        try simp only [Act.put, List.setIfInBounds_toArray, List.set_cons_zero, List.set_cons_succ]
        refine wpAnyH_ready (rs := [15]) (by kernel_rfl) (by simp) ?_
        refine AllReadyH.cons rfl (fun K hK => ?_) AllReadyH.nil
        go_simp
        (try dsimp only at hHeld)
        obtain ⟨_, _, _, HQh⟩ := hHeld
        refine (HPa.out _).mono ?_
        rintro e w' ⟨rfl, hB⟩
        have hR := (Q.below HQh.out hB).r
        clear HQh hB
        dsimp only
        refine hK.out _ _ ?_ (fun hHeld => ?_)
        · ((try dsimp only); exact hR)
        clear hK K
        refine wpAnyH_ready (rs := [17]) (by kernel_rfl) (by simp) ?_
        refine AllReadyH.cons rfl (fun K hK => ?_) AllReadyH.nil
        go_simp
        (try dsimp only at hHeld)
        obtain ⟨_, _, _, HQh⟩ := hHeld
        refine (HPb.out _).mono ?_
        rintro e w' ⟨rfl, hB⟩
        have hR := (Q.below HQh.out hB).r
        clear HQh hB
        dsimp only
        refine hK.out _ _ ?_ (fun hHeld => ?_)
        · ((try dsimp only); exact hR)
        clear hK K
        refine wpAnyH_take (i := 18) (v := ?_) (by simp only [List.getElem?_toArray, List.getElem?_cons_succ, List.getElem?_cons_zero]; rfl) (by kernel_rfl) (by kernel_rfl) (by kernel_rfl) (by exact fun _ _ _ h => h) (Or.inl ⟨by rfl, ?_⟩) (by assumption) ?_
        rotate_left
        · (intro w hSw; (try dsimp only at hSw); go_simp; try with_reducible rfl)
        try simp only [Act.put, List.setIfInBounds_toArray, List.set_cons_zero, List.set_cons_succ]
        refine wpAnyH_take (i := 20) (v := ?_) (by simp only [List.getElem?_toArray, List.getElem?_cons_succ, List.getElem?_cons_zero]; rfl) (by kernel_rfl) (by kernel_rfl) (by kernel_rfl) (by exact fun _ _ _ h => h) (Or.inl ⟨by rfl, ?_⟩) (by assumption) ?_
        rotate_left
        · (intro w hSw; (try dsimp only at hSw); go_simp; try with_reducible rfl)
        try simp only [Act.put, List.setIfInBounds_toArray, List.set_cons_zero, List.set_cons_succ]
        refine wpAnyH_take (i := 21) (v := ?_) (by simp only [List.getElem?_toArray, List.getElem?_cons_succ, List.getElem?_cons_zero]; rfl) (by kernel_rfl) (by kernel_rfl) (by kernel_rfl) (by exact fun _ _ _ h => h) (Or.inl ⟨by rfl, ?_⟩) (by assumption) ?_
        rotate_left
        · (intro w hSw; (try dsimp only at hSw); go_simp; try with_reducible rfl)
        try simp only [Act.put, List.setIfInBounds_toArray, List.set_cons_zero, List.set_cons_succ]
        refine wpAnyH_take (i := 22) (v := ?_) (by simp only [List.getElem?_toArray, List.getElem?_cons_succ, List.getElem?_cons_zero]; rfl) (by kernel_rfl) (by kernel_rfl) (by kernel_rfl) (by exact fun _ _ _ h => h) (Or.inl ⟨by rfl, ?_⟩) (by assumption) ?_
        rotate_left
        · (intro w hSw; (try dsimp only at hSw); go_simp; try with_reducible rfl)
        try simp only [Act.put, List.setIfInBounds_toArray, List.set_cons_zero, List.set_cons_succ]
        refine wpAnyH_done (by kernel_rfl) ?_ _
        (try dsimp only at hHeld)
        obtain ⟨_, _, _, HQh⟩ := hHeld
        have hfin : Below w.heap.size w _ := HQh.out.2.2.2.2
        go_wp2
        go_ret
        exact ⟨rfl, hfin⟩

set_option maxHeartbeats 3200000 in
set_option maxRecDepth 1000000 in
theorem walk (l0 : List Int) (ok0 : M.okR l0) (l1 : List Int) (ok1 : M.okR l1) (w : World) (hN : B.Nm w) :
    Calls Tryd.prog 6 #[.agg (B.enc l0), .agg (B.enc l1)] w fun e w' => e = .returned (.bool true) ∧ Below w.heap.size w w' := by
  exact core l0 l1 ok0 ok1 w hN

set_option maxRecDepth 100000 in
theorem lifted (os : Os) (started : os.Started) (H : Type) (enc : TypeId × Value → H) :
    ReturnsInHanded {} Tryd.checked os 6 .any (fun w args => (Rows.recordWordsSpec.pre enc Tryd.prog Tryd.f6 [] false w args ∧ laidMetH Tryd.prog B.laidL w) ∧ sizedMet enc Tryd.prog Tryd.f6 (OpenSpec.ofChange Rows.recordWordsSpec) false w args)
      (Rows.recordWordsSpec.post enc Tryd.prog Tryd.f6 false true false false) := by
  refine returnsInHanded_of_change_and (C := Tryd.checked) (X := fun w _ => laidMetH Tryd.prog B.laidL w) (fun _ _ _ hh h => h.of_heap hh) own started (by kernel_rfl) Tryd.func6
    (ChangeSpec.witness_shaped (enc := enc) (C := Tryd.checked) (os := os) (X := fun w _ => laidMetH Tryd.prog B.laidL w) false (World.doorLaid Tryd.prog 400 os) #[.agg #[.int .u32 0, .int .u32 0, .int .u32 0, .int .u32 0, .int .u32 0, .int .u32 0, .int .u32 0, .int .u32 0, .int .u32 0, .int .u32 0, .int .u32 0, .int .u32 0, .int .u32 0, .int .u32 0, .int .u32 0, .int .u32 0], .agg #[.int .u32 0, .int .u32 0, .int .u32 0, .int .u32 0, .int .u32 0, .int .u32 0, .int .u32 0, .int .u32 0, .int .u32 0, .int .u32 0, .int .u32 0, .int .u32 0, .int .u32 0, .int .u32 0, .int .u32 0, .int .u32 0]] 8 rfl (World.shaped_of_RefB (by kernel_rfl) (by kernel_rfl)) (by kernel_rfl) (by kernel_rfl) (by kernel_rfl) (B.door_met os _)) ?_
  intro W base args ds gs before hval0 hW _ _ hL _
  have hval : ∀ (j : Nat) t v, Tryd.f6.params[j]? = some t → args[j]? = some v → Value.okWide Tryd.prog W .any base t v := hval0
  have hW' := hW
  obtain ⟨p, q, hA0, hV, rfl, hfz, hnd⟩ := hW
  have hA : DataW.TrodAll enc Tryd.prog W 0 (fun _ => true) true Tryd.f6.params.toList args.toList ds p := hA0
  rw [Tryd.params6] at hA hval
  obtain ⟨v0, vs0, d0, ds0, p0, q0, hargs, rfl, rfl, h0, r0⟩ := trodAll_cons hA
  obtain ⟨v1, vs1, d1, ds1, p1, q1, rfl, rfl, rfl, h1, r1⟩ := trodAll_cons r0
  obtain ⟨rfl, rfl, rfl⟩ := trodAll_nil r1
  obtain rfl : args = #[v0, v1] := by cases args; simp_all
  obtain ⟨rfl, rfl⟩ := trodVars_none hV
  obtain ⟨l0, rfl, hp0, ok0⟩ := B.arg_rec (hval 0 24 v0 rfl rfl) h0
  obtain ⟨l1, rfl, hp1, ok1⟩ := B.arg_rec (hval 1 24 v1 rfl rfl) h1
  clear hA0 hval0
  simp only [List.append_nil] at hW'
  have hlt0 : ∀ x ∈ p0, x.block < W.heap.size := fun x hx => by simpa using hW'.lt x (by simp [hx])
  have hlt1 : ∀ x ∈ p1, x.block < W.heap.size := fun x hx => by simpa using hW'.lt x (by simp [hx])
  refine (walk l0 ok0 l1 ok1 W (B.of_laid hL) ).mono fun e W' ⟨he, hg⟩ => ?_
  subst he
  exact ⟨_, rfl, _, _, _, [], (p0 ++ (p1 ++ [])), [], hW', (trodAll_cons_mk (shut_bool Tryd.underlying4 _) trodAll_mk0), (trodAll_cons_mk (Below.trod laidOut (by kernel_rfl) (of_decide_eq_true (by kernel_rfl)) h0 hg hlt0) (trodAll_cons_mk (Below.trod laidOut (by kernel_rfl) (of_decide_eq_true (by kernel_rfl)) h1 hg hlt1) trodAll_mk0)), rfl, hg.frame _, fun h => by cases h⟩

theorem over : Rows.recordWordsRow.holds Tryd.pinned (OpenSpec.ofChange Rows.recordWordsSpec) :=
  OpenClaim.holds_of_wide 6 Tryd.f6 rfl rfl rfl rfl rfl rfl rfl ⟨rfl, rfl, rfl, rfl, rfl⟩ rfl rfl rfl rfl rfl (by kernel_rfl) Tryd.func6 (by kernel_rfl)
    (of_decide_eq_true (by kernel_rfl)) (by unfold Func.isWrapper; first | (rw [if_pos (by decide +kernel)]; kernel_rfl) | (rw [if_neg (by decide +kernel)]; exact ⟨rfl, rfl⟩))
    (fun os started H enc _ => lifted os started H enc)

theorem proved : Rows.RecordWordsCardSaid :=
  Claim7.holds_tied_plain_at .later [] [.data] true (true, "09afddfe84cc98cca8d139d8bdbb4c0819ebacbcdf3cf43e811ae0c1d9354eb8") false
    over (fun _ h => by cases h) (by kernel_rfl) (fun _ h => by cases h) recordWords_row_tie rfl ⟨rfl, rfl⟩ (by kernel_rfl) rfl
    (fun f fn hf hfn => by
      obtain rfl : f = 6 := Option.some.inj ((show Tryd.prog.funcNamed "tamis/tamislaw03.RecordWords" = some 6 by kernel_rfl).symm.trans hf) |>.symm
      obtain rfl : fn = Tryd.f6 := (Option.some.inj (Tryd.func6.symm.trans hfn)).symm
      exact ⟨by kernel_rfl, fun j t ht => by
        rw [Tryd.params6] at ht
        have hm : t ∈ [24, 24] := by simpa using Array.mem_of_getElem? ht
        have hall : ([24, 24].all fun u => !Tryd.prog.wantsStandIn u) = true := by kernel_rfl
        exact (show Tryd.prog.wantsStandIn t = false by simpa using List.all_eq_true.1 hall t hm)⟩)
    (by kernel_rfl)
#print axioms proved
end Go.Proofs.YtgdgigldodbpeaaDoor.recordWords
