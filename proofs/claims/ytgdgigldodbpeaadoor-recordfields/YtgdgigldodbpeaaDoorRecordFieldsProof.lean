/-
  For every field, word and name, places, widths and names are the document's, and each word is of one field; no condition.
-/
import Derived.Test.YtgdgigldodbpeaaDoorRows
import Derived.WalkKit
import Derived.ProofKit
import Derived.OpenShut
import Derived.Carry
import Derived.Test.YtgdgigldodbpeaaDoorTie
import Derived.Test.YtgdgigldodbpeaaDoorCards
import Derived.SevenTiedAt
import Derived.Test.YtgdgigldodbpeaaDoorRecAwake
import Derived.Test.YtgdgigldodbpeaaDoorRecRefName
import Derived.Test.YtgdgigldodbpeaaDoorRecLaid
import Derived.Test.YtgdgigldodbpeaaDoorRecArgs
namespace Go.Proofs.YtgdgigldodbpeaaDoor.recordFields
open Go.ChangeShapes Go.WideShapes Go.ChangeAt Go.RowKit
set_option linter.unusedVariables false

theorem own : ownKnob Tryd.prog.godebug = none := by kernel_rfl
theorem laidOut : laidOutB Tryd.prog = true := by kernel_rfl
/-- a field's name, or none -/
def nmf (f : Int) : ByteArray := if M.isF f = true then B.nm f.toNat else ByteArray.empty
theorem name_any (f : Int) (W : World) (hN : B.Nm W) : Calls Tryd.prog 20 #[.int .i64 f] W fun e w' => e = .returned (.string (nmf f)) ∧ w' = W := by
  unfold nmf
  rcases h : M.isF f with _ | _
  · rw [if_neg (by decide)]
    exact B.name_no f h W
  · rw [if_pos rfl]
    have h' := of_decide_eq_true (show decide (0 ≤ f ∧ f ≤ 8) = true from h)
    obtain ⟨k, rfl⟩ : ∃ k : Nat, f = (k : Int) := ⟨f.toNat, by omega⟩
    exact B.name_yes k (by omega) W hN
theorem rname_any (f : Int) (w : World) : Calls Tryd.prog 21 #[.int .i64 f] w fun e w' => e = .returned (.string (nmf f)) ∧ Below w.heap.size w w' := by
  unfold nmf
  rcases h : M.isF f with _ | _
  · rw [if_neg (by decide)]
    refine (B.rname_no f h w).mono ?_
    rintro e w' ⟨rfl, rfl⟩
    exact ⟨rfl, Below.refl _ _⟩
  · rw [if_pos rfl]
    have h' := of_decide_eq_true (show decide (0 ≤ f ∧ f ≤ 8) = true from h)
    obtain ⟨k, rfl⟩ : ∃ k : Nat, f = (k : Int) := ⟨f.toNat, by omega⟩
    exact B.rname_yes k (by omega) w
theorem nmf_nat (k : Nat) (h : k < 9) : nmf (k : Int) = B.nm k := by
  unfold nmf
  have h' : M.isF (k : Int) = true := decide_eq_true (by omega)
  rw [if_pos h']
  rfl
theorem nm_inj : ∀ j k : Fin 9, (B.nm j).data.toList = (B.nm k).data.toList → j = k := by decide
theorem nm_ne (j k : Nat) (hj : j < 9) (hk : k < 9) (h : j ≠ k) : B.nm j ≠ B.nm k := fun e => h (by
  have := nm_inj ⟨j, hj⟩ ⟨k, hk⟩ (by show (B.nm j).data.toList = (B.nm k).data.toList; rw [e])
  exact congrArg Fin.val this)
theorem nm_some (k : Nat) (h : k < 9) : (B.nm k).toList ≠ [] := by
  rw [ByteArray.toList_eq]
  match k, h with
  | 0, _ | 1, _ | 2, _ | 3, _ | 4, _ | 5, _ | 6, _ | 7, _ | 8, _ => decide
theorem which (s : ByteArray) : ∃ n, n ≤ 9 ∧ (∀ k, k < n → B.nm k ≠ s) ∧ (n < 9 → B.nm n = s) := by
  have key : ∀ m, m ≤ 9 → (∃ n, n < m ∧ (∀ k, k < n → B.nm k ≠ s) ∧ B.nm n = s) ∨ (∀ k, k < m → B.nm k ≠ s) := by
    intro m
    induction m with
    | zero => intro _; exact .inr fun k hk => absurd hk (Nat.not_lt_zero _)
    | succ m ih =>
      intro hm
      rcases ih (by omega) with ⟨n, h1, h2, h3⟩ | h
      · exact .inl ⟨n, by omega, h2, h3⟩
      · by_cases e : B.nm m = s
        · exact .inl ⟨m, by omega, h, e⟩
        · refine .inr fun k hk => ?_
          by_cases e2 : k = m
          · rw [e2]; exact e
          · exact h k (by omega)
  rcases key 9 (Nat.le_refl _) with ⟨n, h1, h2, h3⟩ | h
  · exact ⟨n, by omega, h2, fun _ => h3⟩
  · exact ⟨9, Nat.le_refl _, h, fun h => absurd h (Nat.lt_irrefl _)⟩
/-- what a word is of -/
theorem word_cases (m : Int) :
    (decide (m < 0) = true ∧ M.ofw m = -1 ∧ M.hiw m = false) ∨ (decide (m < 0) = false ∧ decide (15 < m) = true ∧ M.ofw m = -1 ∧ M.hiw m = false) ∨
    (decide (m < 0) = false ∧ decide (15 < m) = false ∧ M.hiw m = false ∧ M.place (M.ofw m) = m) ∨
    (decide (m < 0) = false ∧ decide (15 < m) = false ∧ M.hiw m = true ∧ M.place (M.ofw m) = m - 1 ∧ M.width (M.ofw m) = 64 ∧ 0 ≤ m ∧ m < 16) := by
  by_cases h0 : m < 0
  · refine .inl ⟨decide_eq_true h0, ?_, ?_⟩
    · unfold M.ofw; rw [if_pos (by omega)]
    · unfold M.hiw; rw [if_pos (by omega)]
  · by_cases h1 : 15 < m
    · refine .inr (.inl ⟨decide_eq_false h0, decide_eq_true h1, ?_, ?_⟩)
      · unfold M.ofw; rw [if_pos (by omega)]
      · unfold M.hiw; rw [if_pos (by omega)]
    · by_cases h2 : m < 2
      · refine .inr (.inr (.inl ⟨decide_eq_false h0, decide_eq_false h1, ?_, ?_⟩))
        · unfold M.hiw; rw [if_neg (by omega), if_pos h2]
        · have : M.ofw m = m := by unfold M.ofw; rw [if_neg (by omega), if_pos h2]
          rw [this, M.place_lt (by omega) h2]
      · have ho : M.ofw m = 2 + (m - 2) / 2 := by unfold M.ofw; rw [if_neg (by omega), if_neg h2]
        have hh : M.hiw m = decide ((m - 2) % 2 = 1) := by unfold M.hiw; rw [if_neg (by omega), if_neg h2]
        by_cases h3 : (m - 2) % 2 = 1
        · refine .inr (.inr (.inr ⟨decide_eq_false h0, decide_eq_false h1, ?_, ?_, ?_, by omega, by omega⟩))
          · rw [hh]; exact decide_eq_true h3
          · rw [ho, M.place_ge (by omega) (by omega)]; omega
          · rw [ho]; unfold M.width; rw [if_neg (by omega), if_neg (by omega)]
        · refine .inr (.inr (.inl ⟨decide_eq_false h0, decide_eq_false h1, ?_, ?_⟩))
          · rw [hh]; exact decide_eq_false h3
          · rw [ho, M.place_ge (by omega) (by omega)]; omega

set_option maxHeartbeats 1600000 in
set_option maxRecDepth 1000000 in
theorem long_ (f m : Int) (s : ByteArray) (w : World) (hN : B.Nm w) (h : 100 < s.size) :
    Calls Tryd.prog 4 #[.int .i64 f, .int .i64 m, .string s] w fun e w' => e = .returned (.bool true) ∧ Below w.heap.size w w' := by
  have d : decide (100 < (s.size : Int)) = true := decide_eq_true (by omega)
  have HN : Hid (B.Nm w) := hN
  clear h hN
  go_enter Tryd.func4, Tryd.ntmps4
  go_wp2_with fail
  refine (B.awake_any _ HN.out).mono ?_
  rintro e w1 ⟨rfl, hB⟩
  have HB : Hid (Below w.heap.size w w1) := hB
  clear hB
  go_wp2_with fail
  refine (B.awake_any _ (HN.out.below HB.out HN.out.size)).mono ?_
  rintro e w2 ⟨rfl, hB⟩
  have HB : Hid (Below w.heap.size w w2) := HB.out.trans (hB.mono HB.out.size)
  clear hB
  go_wp2
  go_ret
  exact ⟨rfl, HB.out⟩

/-- what is kept -/
def K (w w' : World) : Prop := B.Nm w' ∧ Below w.heap.size w w' ∧ 0 < w.heap.size
theorem K.below {w w' w'' : World} (h : K w w') (hB : Below w'.heap.size w' w'') : K w w'' := ⟨h.1.below hB (Nat.lt_of_lt_of_le h.2.2 h.2.1.size), h.2.1.trans (hB.mono h.2.1.size), h.2.2⟩

set_option maxHeartbeats 6400000 in
set_option maxRecDepth 1000000 in
theorem core (f m : Int) (s : ByteArray) (w : World) (hN : B.Nm w) (d : decide (100 < (s.size : Int)) = false) (n : Nat) (hn : n ≤ 9) (hno : ∀ k, k < n → B.nm k ≠ s) (hyes : n < 9 → B.nm n = s) :
    Calls Tryd.prog 4 #[.int .i64 f, .int .i64 m, .string s] w fun e w' => e = .returned (.bool true) ∧ Below w.heap.size w w' := by
  have HK : Hid (K w w) := ⟨hN, Below.refl _ _, hN.size⟩
  have HF : Hid (∀ W : World, B.Nm W → Calls Tryd.prog 14 #[.string s] W fun e w' => e = .returned (.tuple #[.int .i64 (if n < 9 then (n : Int) else 0), .bool (decide (n < 9))]) ∧ w' = W) := fun W h => B.find_any s W h n hn hno hyes
  have HM : Hid (∀ k : Nat, k < 9 → ((nmf (k : Int)).toList == s.toList) = decide (k = n)) := fun k hk => by
    rw [nmf_nat k hk]
    by_cases e : k = n
    · rw [decide_eq_true e]
      subst e
      rw [hyes hk]; simp
    · rw [decide_eq_false e]
      refine beq_eq_false_iff_ne.2 fun h => ?_
      have h' := B.toList_inj h
      by_cases h9 : n < 9
      · exact nm_ne k n hk h9 e (h'.trans (hyes h9).symm)
      · exact hno k (by omega) h'
  have HG : Hid (∀ k : Nat, k < 9 → ∀ W : World, B.Nm W → Calls Tryd.prog 14 #[.string (nmf (k : Int))] W fun e w' => e = .returned (.tuple #[.int .i64 (k : Int), .bool true]) ∧ w' = W) := fun k hk W h => by
    have := B.find_any (B.nm k) W h k (by omega) (fun j hj => nm_ne j k (by omega) hk (by omega)) (fun _ => rfl)
    rw [nmf_nat k hk]
    rw [if_pos hk, decide_eq_true hk] at this
    exact this
  have hc : (decide (n < 9) = true ∧ (if n < 9 then (n : Int) else 0) = (n : Int) ∧ ((nmf (n : Int)).toList == s.toList) = true ∧ (s.toList == []) = false) ∨ (decide (n < 9) = false ∧ (if n < 9 then (n : Int) else 0) = 0) := by
    by_cases h9 : n < 9
    · refine .inl ⟨decide_eq_true h9, if_pos h9, by rw [HM.out n h9]; simp, ?_⟩
      rw [← hyes h9]
      exact beq_eq_false_iff_ne.2 (nm_some n h9)
    · exact .inr ⟨decide_eq_false h9, if_neg h9⟩
  have HN9 : Hid (n ≤ 9) := hn
  have HWC : Hid ((decide (m < 0) = true ∧ M.ofw m = -1 ∧ M.hiw m = false) ∨ (decide (m < 0) = false ∧ decide (15 < m) = true ∧ M.ofw m = -1 ∧ M.hiw m = false) ∨
    (decide (m < 0) = false ∧ decide (15 < m) = false ∧ M.hiw m = false ∧ M.place (M.ofw m) = m) ∨
    (decide (m < 0) = false ∧ decide (15 < m) = false ∧ M.hiw m = true ∧ M.place (M.ofw m) = m - 1 ∧ M.width (M.ofw m) = 64 ∧ 0 ≤ m ∧ m < 16)) := word_cases m
  clear hN hn hno hyes
  rcases hc with ⟨c1, c2, c3, c4⟩ | ⟨c1, c2⟩
  · skip
    go_enter Tryd.func4, Tryd.ntmps4
    go_wp2_with fail
    refine (B.awake_any _ HK.out.1).mono ?_
    rintro e w1 ⟨rfl, hB⟩
    have HK : Hid (K w w1) := HK.out.below hB
    clear hB
    go_wp2_with fail
    refine (HF.out _ HK.out.1).mono ?_
    rintro e w2 ⟨rfl, rfl⟩
    go_wp2_with fail
    refine (B.of_any _ _).mono ?_
    rintro e w2 ⟨rfl, rfl⟩
    go_wp2_with fail
    refine (B.place_any _ _).mono ?_
    rintro e w2 ⟨rfl, rfl⟩
    go_wp2_with fail
    refine (B.rplace_any _ _).mono ?_
    rintro e w2 ⟨rfl, rfl⟩
    go_wp2_with fail
    refine (B.width_any _ _).mono ?_
    rintro e w2 ⟨rfl, rfl⟩
    go_wp2_with fail
    refine (B.rwidth_any _ _).mono ?_
    rintro e w2 ⟨rfl, rfl⟩
    go_wp2_with fail
    refine (name_any _ _ HK.out.1).mono ?_
    rintro e w2 ⟨rfl, rfl⟩
    go_wp2_with fail
    refine (rname_any _ _).mono ?_
    rintro e w3 ⟨rfl, hB⟩
    have HK : Hid (K w w3) := HK.out.below hB
    clear hB
    go_wp2_with fail
    refine (rname_any _ _).mono ?_
    rintro e w4 ⟨rfl, hB⟩
    have HK : Hid (K w w4) := HK.out.below hB
    clear hB
    go_wp2
    go_loopw [11, 74] (fun fv i wr => ∃ k : Nat, k ≤ 9 ∧ i = .int .i64 k ∧ fv = .bool (decide (n < k)) ∧ Hid (K w wr)) (fun _ i _ => 9 - (intOf i).toNat)
    case atStart => exact ⟨0, Nat.zero_le _, rfl, by simp, HK⟩
    case round =>
      clear HK
      obtain ⟨k, hk, rfl, rfl, HK⟩ := hrel
      by_cases hlt : k < 9
      · have i1 : (k : Int) < 9 := by omega
        have hcmp := HM.out k hlt
        have HGk : Hid (∀ W : World, B.Nm W → Calls Tryd.prog 14 #[.string (nmf (k : Int))] W fun e w' => e = .returned (.tuple #[.int .i64 (k : Int), .bool true]) ∧ w' = W) := HG.out k hlt
        rcases Nat.lt_trichotomy n k with h | h | h
        · have e1 : decide (n < k) = true := decide_eq_true h
          have E2 : Hid (decide (n < k + 1) = true) := decide_eq_true (by omega)
          rw [e1]
          clear hcmp h e1
          go_wp2_with fail
          refine (name_any _ _ HK.out.1).mono ?_
          rintro e w5 ⟨rfl, rfl⟩
          go_wp2_with fail
          refine (HGk.out _ HK.out.1).mono ?_
          rintro e w5 ⟨rfl, rfl⟩
          go_wp2
          go_roundw
          case rel => exact ⟨k + 1, by omega, by go_num, by rw [E2.out], HK⟩
          case measure => simp [intOf]; omega
        · have e1 : decide (n < k) = false := decide_eq_false (by omega)
          have e3 : decide (k = n) = true := decide_eq_true h.symm
          have E2 : Hid (decide (n < k + 1) = true) := decide_eq_true (by omega)
          rw [e3] at hcmp
          rw [e1]
          clear h e1 e3
          go_wp2_with fail
          refine (rname_any _ _).mono ?_
          rintro e w5 ⟨rfl, hB⟩
          have HK : Hid (K w w5) := HK.out.below hB
          clear hB
          go_wp2_with fail
          refine (name_any _ _ HK.out.1).mono ?_
          rintro e w6 ⟨rfl, rfl⟩
          go_wp2_with fail
          refine (HGk.out _ HK.out.1).mono ?_
          rintro e w6 ⟨rfl, rfl⟩
          go_wp2
          go_roundw
          case rel => exact ⟨k + 1, by omega, by go_num, by rw [E2.out], HK⟩
          case measure => simp [intOf]; omega
        · have e1 : decide (n < k) = false := decide_eq_false (by omega)
          have e3 : decide (k = n) = false := decide_eq_false (by omega)
          have E2 : Hid (decide (n < k + 1) = false) := decide_eq_false (by omega)
          rw [e3] at hcmp
          rw [e1]
          clear h e1 e3
          go_wp2_with fail
          refine (rname_any _ _).mono ?_
          rintro e w5 ⟨rfl, hB⟩
          have HK : Hid (K w w5) := HK.out.below hB
          clear hB
          go_wp2_with fail
          refine (name_any _ _ HK.out.1).mono ?_
          rintro e w6 ⟨rfl, rfl⟩
          go_wp2_with fail
          refine (HGk.out _ HK.out.1).mono ?_
          rintro e w6 ⟨rfl, rfl⟩
          go_wp2
          go_roundw
          case rel => exact ⟨k + 1, by omega, by go_num, by rw [E2.out], HK⟩
          case measure => simp [intOf]; omega
      · obtain rfl : k = 9 := by omega
        rw [c1]
        clear hlt hk HM HG HF
        rcases HWC.out with ⟨m1, m2, m3⟩ | ⟨m1, m2, m3, m4⟩ | ⟨m1, m2, m3, m4⟩ | ⟨m1, m2, m3, m4, m5, m6, m7⟩
        · go_wp2
          go_ret
          exact ⟨rfl, HK.out.2.1⟩
        · go_wp2
          go_ret
          exact ⟨rfl, HK.out.2.1⟩
        · go_wp2_with fail
          refine (B.rplace_any _ _).mono ?_
          rintro e w5 ⟨rfl, rfl⟩
          go_wp2
          go_ret
          exact ⟨rfl, HK.out.2.1⟩
        · have hw1 : IntKind.i64.wrap (m - 1 + 1) = m := by rw [IntKind.wrap_i64]; omega
          have hw2 : m - 1 + 1 = m := by omega
          have hw3 : wrap64 m = m := by unfold wrap64; omega
          clear m6 m7
          go_wp2_with fail
          refine (B.rplace_any _ _).mono ?_
          rintro e w5 ⟨rfl, rfl⟩
          go_wp2_with fail
          refine (B.rwidth_any _ _).mono ?_
          rintro e w5 ⟨rfl, rfl⟩
          go_wp2
          go_ret
          exact ⟨rfl, HK.out.2.1⟩
  · skip
    go_enter Tryd.func4, Tryd.ntmps4
    go_wp2_with fail
    refine (B.awake_any _ HK.out.1).mono ?_
    rintro e w1 ⟨rfl, hB⟩
    have HK : Hid (K w w1) := HK.out.below hB
    clear hB
    go_wp2_with fail
    refine (HF.out _ HK.out.1).mono ?_
    rintro e w2 ⟨rfl, rfl⟩
    go_wp2_with fail
    refine (B.of_any _ _).mono ?_
    rintro e w2 ⟨rfl, rfl⟩
    go_wp2_with fail
    refine (B.place_any _ _).mono ?_
    rintro e w2 ⟨rfl, rfl⟩
    go_wp2_with fail
    refine (B.rplace_any _ _).mono ?_
    rintro e w2 ⟨rfl, rfl⟩
    go_wp2_with fail
    refine (B.width_any _ _).mono ?_
    rintro e w2 ⟨rfl, rfl⟩
    go_wp2_with fail
    refine (B.rwidth_any _ _).mono ?_
    rintro e w2 ⟨rfl, rfl⟩
    go_wp2_with fail
    refine (name_any _ _ HK.out.1).mono ?_
    rintro e w2 ⟨rfl, rfl⟩
    go_wp2_with fail
    refine (rname_any _ _).mono ?_
    rintro e w3 ⟨rfl, hB⟩
    have HK : Hid (K w w3) := HK.out.below hB
    clear hB
    go_wp2
    go_loopw [11, 74] (fun fv i wr => ∃ k : Nat, k ≤ 9 ∧ i = .int .i64 k ∧ fv = .bool (decide (n < k)) ∧ Hid (K w wr)) (fun _ i _ => 9 - (intOf i).toNat)
    case atStart => exact ⟨0, Nat.zero_le _, rfl, by simp, HK⟩
    case round =>
      clear HK
      obtain ⟨k, hk, rfl, rfl, HK⟩ := hrel
      by_cases hlt : k < 9
      · have i1 : (k : Int) < 9 := by omega
        have hcmp := HM.out k hlt
        have HGk : Hid (∀ W : World, B.Nm W → Calls Tryd.prog 14 #[.string (nmf (k : Int))] W fun e w' => e = .returned (.tuple #[.int .i64 (k : Int), .bool true]) ∧ w' = W) := HG.out k hlt
        rcases Nat.lt_trichotomy n k with h | h | h
        · have e1 : decide (n < k) = true := decide_eq_true h
          have E2 : Hid (decide (n < k + 1) = true) := decide_eq_true (by omega)
          rw [e1]
          clear hcmp h e1
          go_wp2_with fail
          refine (name_any _ _ HK.out.1).mono ?_
          rintro e w5 ⟨rfl, rfl⟩
          go_wp2_with fail
          refine (HGk.out _ HK.out.1).mono ?_
          rintro e w5 ⟨rfl, rfl⟩
          go_wp2
          go_roundw
          case rel => exact ⟨k + 1, by omega, by go_num, by rw [E2.out], HK⟩
          case measure => simp [intOf]; omega
        · have e1 : decide (n < k) = false := decide_eq_false (by omega)
          have e3 : decide (k = n) = true := decide_eq_true h.symm
          have E2 : Hid (decide (n < k + 1) = true) := decide_eq_true (by omega)
          rw [e3] at hcmp
          rw [e1]
          clear h e1 e3
          go_wp2_with fail
          refine (rname_any _ _).mono ?_
          rintro e w5 ⟨rfl, hB⟩
          have HK : Hid (K w w5) := HK.out.below hB
          clear hB
          go_wp2_with fail
          refine (name_any _ _ HK.out.1).mono ?_
          rintro e w6 ⟨rfl, rfl⟩
          go_wp2_with fail
          refine (HGk.out _ HK.out.1).mono ?_
          rintro e w6 ⟨rfl, rfl⟩
          go_wp2
          go_roundw
          case rel => exact ⟨k + 1, by omega, by go_num, by rw [E2.out], HK⟩
          case measure => simp [intOf]; omega
        · have e1 : decide (n < k) = false := decide_eq_false (by omega)
          have e3 : decide (k = n) = false := decide_eq_false (by omega)
          have E2 : Hid (decide (n < k + 1) = false) := decide_eq_false (by omega)
          rw [e3] at hcmp
          rw [e1]
          clear h e1 e3
          go_wp2_with fail
          refine (rname_any _ _).mono ?_
          rintro e w5 ⟨rfl, hB⟩
          have HK : Hid (K w w5) := HK.out.below hB
          clear hB
          go_wp2_with fail
          refine (name_any _ _ HK.out.1).mono ?_
          rintro e w6 ⟨rfl, rfl⟩
          go_wp2_with fail
          refine (HGk.out _ HK.out.1).mono ?_
          rintro e w6 ⟨rfl, rfl⟩
          go_wp2
          go_roundw
          case rel => exact ⟨k + 1, by omega, by go_num, by rw [E2.out], HK⟩
          case measure => simp [intOf]; omega
      · obtain rfl : k = 9 := by omega
        rw [c1]
        clear hlt hk HM HG HF
        rcases HWC.out with ⟨m1, m2, m3⟩ | ⟨m1, m2, m3, m4⟩ | ⟨m1, m2, m3, m4⟩ | ⟨m1, m2, m3, m4, m5, m6, m7⟩
        · go_wp2
          go_ret
          exact ⟨rfl, HK.out.2.1⟩
        · go_wp2
          go_ret
          exact ⟨rfl, HK.out.2.1⟩
        · go_wp2_with fail
          refine (B.rplace_any _ _).mono ?_
          rintro e w5 ⟨rfl, rfl⟩
          go_wp2
          go_ret
          exact ⟨rfl, HK.out.2.1⟩
        · have hw1 : IntKind.i64.wrap (m - 1 + 1) = m := by rw [IntKind.wrap_i64]; omega
          have hw2 : m - 1 + 1 = m := by omega
          have hw3 : wrap64 m = m := by unfold wrap64; omega
          clear m6 m7
          go_wp2_with fail
          refine (B.rplace_any _ _).mono ?_
          rintro e w5 ⟨rfl, rfl⟩
          go_wp2_with fail
          refine (B.rwidth_any _ _).mono ?_
          rintro e w5 ⟨rfl, rfl⟩
          go_wp2
          go_ret
          exact ⟨rfl, HK.out.2.1⟩


set_option maxHeartbeats 3200000 in
set_option maxRecDepth 1000000 in
theorem walk (n0 : Int) (wf0 : (Lit.int .i64 n0).wf = true) (n1 : Int) (wf1 : (Lit.int .i64 n1).wf = true) (s2 : ByteArray) (hs2 : s2.size ≤ maxLen) (w : World) (hN : B.Nm w) :
    Calls Tryd.prog 4 #[.int .i64 n0, .int .i64 n1, .string s2] w fun e w' => e = .returned (.bool true) ∧ Below w.heap.size w w' := by
  by_cases h : 100 < s2.size
  · exact long_ n0 n1 s2 w hN h
  · have d : decide (100 < (s2.size : Int)) = false := decide_eq_false (by omega)
    obtain ⟨n, h1, h2, h3⟩ := which s2
    exact core n0 n1 s2 w hN d n h1 h2 h3

set_option maxRecDepth 100000 in
theorem lifted (os : Os) (started : os.Started) (H : Type) (enc : TypeId × Value → H) :
    ReturnsInHanded {} Tryd.checked os 4 .any (fun w args => (Rows.recordFieldsSpec.pre enc Tryd.prog Tryd.f4 [] false w args ∧ laidMetH Tryd.prog B.laidL w) ∧ sizedMet enc Tryd.prog Tryd.f4 (OpenSpec.ofChange Rows.recordFieldsSpec) false w args)
      (Rows.recordFieldsSpec.post enc Tryd.prog Tryd.f4 false true false false) := by
  refine returnsInHanded_of_change_and (C := Tryd.checked) (X := fun w _ => laidMetH Tryd.prog B.laidL w) (fun _ _ _ hh h => h.of_heap hh) own started (by kernel_rfl) Tryd.func4
    (ChangeSpec.witness_shaped (enc := enc) (C := Tryd.checked) (os := os) (X := fun w _ => laidMetH Tryd.prog B.laidL w) false (World.doorLaid Tryd.prog 400 os) #[.int .i64 0, .int .i64 0, .string ByteArray.empty] 8 rfl (World.shaped_of_RefB (by kernel_rfl) (by kernel_rfl)) (by kernel_rfl) (by kernel_rfl) (by kernel_rfl) (B.door_met os _)) ?_
  intro W base args ds gs before hval0 hW _ _ hL _
  have hval : ∀ (j : Nat) t v, Tryd.f4.params[j]? = some t → args[j]? = some v → Value.okWide Tryd.prog W .any base t v := hval0
  have hW' := hW
  obtain ⟨p, q, hA0, hV, rfl, hfz, hnd⟩ := hW
  have hA : DataW.TrodAll enc Tryd.prog W 0 (fun _ => true) true Tryd.f4.params.toList args.toList ds p := hA0
  rw [Tryd.params4] at hA hval
  obtain ⟨v0, vs0, d0, ds0, p0, q0, hargs, rfl, rfl, h0, r0⟩ := trodAll_cons hA
  obtain ⟨v1, vs1, d1, ds1, p1, q1, rfl, rfl, rfl, h1, r1⟩ := trodAll_cons r0
  obtain ⟨v2, vs2, d2, ds2, p2, q2, rfl, rfl, rfl, h2, r2⟩ := trodAll_cons r1
  obtain ⟨rfl, rfl, rfl⟩ := trodAll_nil r2
  obtain rfl : args = #[v0, v1, v2] := by cases args; simp_all
  obtain ⟨rfl, rfl⟩ := trodVars_none hV
  obtain ⟨n0, rfl, hd0, hp0, wf0⟩ := open_int Tryd.underlying3 (hval 0 3 v0 rfl rfl) h0
  obtain ⟨n1, rfl, hd1, hp1, wf1⟩ := open_int Tryd.underlying3 (hval 1 3 v1 rfl rfl) h1
  obtain ⟨s2, rfl, hd2, hp2, hs2⟩ := Go.ChangeMaps.open_string Tryd.underlying9 (hval 2 9 v2 rfl rfl) h2
  clear hA0 hval0
  simp only [List.append_nil] at hW'
  have hlt0 : ∀ x ∈ p0, x.block < W.heap.size := fun x hx => by simpa using hW'.lt x (by simp [hx])
  have hlt1 : ∀ x ∈ p1, x.block < W.heap.size := fun x hx => by simpa using hW'.lt x (by simp [hx])
  have hlt2 : ∀ x ∈ p2, x.block < W.heap.size := fun x hx => by simpa using hW'.lt x (by simp [hx])
  refine (walk n0 wf0 n1 wf1 s2 hs2 W (B.of_laid hL) ).mono fun e W' ⟨he, hg⟩ => ?_
  subst he
  exact ⟨_, rfl, _, _, _, [], (p0 ++ (p1 ++ (p2 ++ []))), [], hW', (trodAll_cons_mk (shut_bool Tryd.underlying4 _) trodAll_mk0), (trodAll_cons_mk (Below.trod laidOut (by kernel_rfl) (of_decide_eq_true (by kernel_rfl)) h0 hg hlt0) (trodAll_cons_mk (Below.trod laidOut (by kernel_rfl) (of_decide_eq_true (by kernel_rfl)) h1 hg hlt1) (trodAll_cons_mk (Below.trod laidOut (by kernel_rfl) (of_decide_eq_true (by kernel_rfl)) h2 hg hlt2) trodAll_mk0))), rfl, hg.frame _, fun h => by cases h⟩

theorem over : Rows.recordFieldsRow.holds Tryd.pinned (OpenSpec.ofChange Rows.recordFieldsSpec) :=
  OpenClaim.holds_of_wide 4 Tryd.f4 rfl rfl rfl rfl rfl rfl rfl ⟨rfl, rfl, rfl, rfl, rfl⟩ rfl rfl rfl rfl rfl (by kernel_rfl) Tryd.func4 (by kernel_rfl)
    (of_decide_eq_true (by kernel_rfl)) (by unfold Func.isWrapper; first | (rw [if_pos (by decide +kernel)]; kernel_rfl) | (rw [if_neg (by decide +kernel)]; exact ⟨rfl, rfl⟩))
    (fun os started H enc _ => lifted os started H enc)

theorem proved : Rows.RecordFieldsCardSaid :=
  Claim7.holds_tied_plain_at .later [] [.data] true (true, "09afddfe84cc98cca8d139d8bdbb4c0819ebacbcdf3cf43e811ae0c1d9354eb8") false
    over (fun _ h => by cases h) (by kernel_rfl) (fun _ h => by cases h) recordFields_row_tie rfl ⟨rfl, rfl⟩ (by kernel_rfl) rfl
    (fun f fn hf hfn => by
      obtain rfl : f = 4 := Option.some.inj ((show Tryd.prog.funcNamed "tamis/tamislaw03.RecordFields" = some 4 by kernel_rfl).symm.trans hf) |>.symm
      obtain rfl : fn = Tryd.f4 := (Option.some.inj (Tryd.func4.symm.trans hfn)).symm
      exact ⟨by kernel_rfl, fun j t ht => by
        rw [Tryd.params4] at ht
        have hm : t ∈ [3, 3, 9] := by simpa using Array.mem_of_getElem? ht
        have hall : ([3, 3, 9].all fun u => !Tryd.prog.wantsStandIn u) = true := by kernel_rfl
        exact (show Tryd.prog.wantsStandIn t = false by simpa using List.all_eq_true.1 hall t hm)⟩)
    (by kernel_rfl)
#print axioms proved
end Go.Proofs.YtgdgigldodbpeaaDoor.recordFields
