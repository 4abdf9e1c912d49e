/-
  The reference's May, Check, Right and Parts of layer 11, as walks over the Go text.
-/
import Derived.Test.YtapbeffjnpgglaaTerRefM
namespace Go.Proofs.Ytapbeffjnpgglaa.TB
open Go.ChangeShapes Go.WideShapes Go.ChangeAt Go.RowKit
open Go.Sort hiding Below
set_option linter.unusedVariables false
set_option maxRecDepth 100000

theorem rmay_any (o a b k : Int) (ok : TM.okN (o, a, b, k)) (i : Nat) (w : World) (q : Bool) (hq : TM.may (o, a, b, k) i = q) :
    Calls Try.prog 50 #[.agg #[.int .i64 o, .int .i64 a, .int .i64 b, .int .u32 k], .int .i64 i] w fun e w' => e = .returned (.bool q) ∧ Below w.heap.size w w' := by
  subst hq
  have n1 : ∀ x : Int, (!decide (x < 0)) = decide (0 ≤ x) := fun x => by rw [← decide_not]; exact decide_eq_decide.2 (by omega)
  have n2 : (!decide ((i : Int) ≤ a)) = decide (a < (i : Int)) := by rw [← decide_not]; exact decide_eq_decide.2 (by omega)
  by_cases h1 : o = 1
  · subst h1
    rw [TM.may_num (x := (1, a, b, k)) rfl]
    exact rmay_num a b k i w
  · by_cases h2 : o = 2
    · subst h2
      rw [TM.may_word (x := (2, a, b, k)) rfl]
      exact rmay_word a b k i w
    · cases h : TM.isA o with
      | false => rw [TM.may_none (x := (o, a, b, k)) h1 h2 h]; exact rmay_none o a b k h1 h2 h i w
      | true =>
        by_cases h3 : o = 384
        · subst h3
          have e := rmay_neg a b k i w
          rw [n1, n2] at e
          rw [TM.may_neg (x := (384, a, b, k)) rfl]
          exact e
        · have h9 : o = 256 ∨ o = 272 ∨ o = 288 ∨ o = 304 ∨ o = 320 ∨ o = 336 ∨ o = 352 ∨ o = 368 ∨ o = 416 := by
            rcases TM.isA_iff.1 h with h | h | h | h | h | h | h | h | h | h <;> first | (exfalso; exact h3 h) | simp [h]
          have e := rmay_two o a b k h9 i w
          rw [n1, n2] at e
          rw [TM.may_two (x := (o, a, b, k)) h h3]
          exact e

/-- a row of places -/
def Nx (w : World) (a : Option Addr) (js : List Nat) : Prop := js = [] ∨ ∃ g, a = some ⟨g, 0, none⟩ ∧ g < w.heap.size ∧ ∀ j (h : j < js.length), w.cell? ⟨g, j, none⟩ = some (.int .i64 (js[j] : Int))
theorem Nx.far {w w' : World} {a : Option Addr} {js : List Nat} {B : Nat} (h : Nx w a js) (hb : Below B w w') (hB : ∀ A, a = some A → A.block < B) : Nx w' a js := by
  rcases h with h | ⟨g, rfl, h1, h2⟩
  · exact .inl h
  · exact .inr ⟨g, rfl, Nat.lt_of_lt_of_le h1 hb.size, fun j hj => (hb.cell (p := ⟨g, j, none⟩) (hB ⟨g, 0, none⟩ rfl)).trans (h2 j hj)⟩
theorem Nx.below {w w' : World} {a : Option Addr} {js : List Nat} (h : Nx w a js) (hb : Below w.heap.size w w') : Nx w' a js := by
  rcases h with h | ⟨g, rfl, h1, h2⟩
  · exact .inl h
  · exact Nx.far (.inr ⟨g, rfl, h1, h2⟩) hb (fun A hA => by cases hA; exact h1)
theorem Nx.off {w : World} {a : Option Addr} {js : List Nat} {b k : Nat} {v : Value} (h : Nx w a js) (hne : ∀ A, a = some A → A.block ≠ b) : Nx (w.setCell ⟨b, k, none⟩ v) a js := by
  rcases h with h | ⟨g, rfl, h1, h2⟩
  · exact .inl h
  · exact .inr ⟨g, rfl, by simpa using h1, fun j hj => by rw [World.cell?_setCell_far _ _ _ _ (by simpa using fun x => hne ⟨g, 0, none⟩ rfl x.symm)]; exact h2 j hj⟩
theorem nx_get {w : World} {g : Nat} {js : List Nat} (h : Nx w (some ⟨g, 0, none⟩) js) (k : Nat) (hk : k < js.length) : w.cell? ⟨g, k, none⟩ = some (.int .i64 (js[k] : Int)) := by
  rcases h with h | ⟨g', e, _, h⟩
  · rw [h] at hk; simp at hk
  · injection e with e
    injection e with e
    subst e
    exact h k hk
theorem cell_lit (w : World) (l : List Value) (t : TypeId) (j : Nat) : (w.alloc (.cells l.toArray t)).cell? ⟨w.heap.size, j, none⟩ = l[j]? := by
  simp only [World.cell?, World.alloc_heap_new]
  simp
theorem nx_new (w : World) (js : List Nat) (t : TypeId) : Nx (w.alloc (.cells (js.map (fun (x : Nat) => Value.int .i64 (x : Int))).toArray t)) (some ⟨w.heap.size, 0, none⟩) js :=
  .inr ⟨_, rfl, by simp, fun j h => by rw [cell_lit, List.getElem?_map, List.getElem?_eq_getElem h]; rfl⟩

set_option maxHeartbeats 1600000 in
set_option maxRecDepth 100000 in
theorem rparts_none (o a b k : Int) (h : o ≤ 2) (w : World) :
    Calls Try.prog 48 #[.agg #[.int .i64 o, .int .i64 a, .int .i64 b, .int .u32 k]] w fun e w' => e = .returned (.slice none 0 0) ∧ Below w.heap.size w w' := by
  have HB := hid (al w (.cells #[.int .i64 o, .int .i64 a, .int .i64 b, .int .u32 k] 58))
  have d1 : decide (o ≤ 2) = true := decide_eq_true h
  clear h
  go_enter Try.func48, Try.ntmps48
  go_wp2
  go_ret
  exact ⟨rfl, HB.out⟩
set_option maxHeartbeats 1600000 in
set_option maxRecDepth 100000 in
theorem rparts_one (a : Nat) (b k : Int) (w : World) :
    Calls Try.prog 48 #[.agg #[.int .i64 384, .int .i64 a, .int .i64 b, .int .u32 k]] w fun e w' => ∃ g, e = .returned (.slice (some ⟨g, 0, none⟩) 1 1) ∧ Nx w' (some ⟨g, 0, none⟩) [a] ∧ Below w.heap.size w w' ∧ w.heap.size ≤ g := by
  have hb := al w (.cells #[.int .i64 384, .int .i64 a, .int .i64 b, .int .u32 k] 58)
  have hN : Nx ((w.alloc (.cells #[.int .i64 384, .int .i64 a, .int .i64 b, .int .u32 k] 58)).alloc (.cells #[.int .i64 (a : Int)] 3)) (some ⟨(w.alloc (.cells #[.int .i64 384, .int .i64 a, .int .i64 b, .int .u32 k] 58)).heap.size, 0, none⟩) [a] := nx_new _ [a] 3
  have hsz : (w.alloc (.cells #[.int .i64 384, .int .i64 a, .int .i64 b, .int .u32 k] 58)).heap.size = w.heap.size + 1 := by simp
  rw [hsz] at hN
  have HX := hid (And.intro hN (And.intro (hb.trans ((al _ (.cells #[.int .i64 (a : Int)] 3)).mono hb.size)) (Nat.le_succ w.heap.size)))
  clear hb hN hsz
  go_enter Try.func48, Try.ntmps48
  go_wp2
  go_ret
  exact ⟨_, rfl, HX.out⟩
set_option maxHeartbeats 1600000 in
set_option maxRecDepth 100000 in
theorem rparts_two (o : Int) (a b : Nat) (k : Int) (h1 : ¬ o ≤ 2) (h2 : o ≠ 384) (w : World) :
    Calls Try.prog 48 #[.agg #[.int .i64 o, .int .i64 a, .int .i64 b, .int .u32 k]] w fun e w' => ∃ g, e = .returned (.slice (some ⟨g, 0, none⟩) 2 2) ∧ Nx w' (some ⟨g, 0, none⟩) [a, b] ∧ Below w.heap.size w w' ∧ w.heap.size ≤ g := by
  have hb := al w (.cells #[.int .i64 o, .int .i64 a, .int .i64 b, .int .u32 k] 58)
  have hN : Nx ((w.alloc (.cells #[.int .i64 o, .int .i64 a, .int .i64 b, .int .u32 k] 58)).alloc (.cells #[.int .i64 (a : Int), .int .i64 (b : Int)] 3)) (some ⟨(w.alloc (.cells #[.int .i64 o, .int .i64 a, .int .i64 b, .int .u32 k] 58)).heap.size, 0, none⟩) [a, b] := nx_new _ [a, b] 3
  have hsz : (w.alloc (.cells #[.int .i64 o, .int .i64 a, .int .i64 b, .int .u32 k] 58)).heap.size = w.heap.size + 1 := by simp
  rw [hsz] at hN
  have HX := hid (And.intro hN (And.intro (hb.trans ((al _ (.cells #[.int .i64 (a : Int), .int .i64 (b : Int)] 3)).mono hb.size)) (Nat.le_succ w.heap.size)))
  have d1 : decide (o ≤ 2) = false := decide_eq_false h1
  have d2 : (o == 384) = false := beq_eq_false_iff_ne.2 h2
  clear hb hN h1 h2 hsz
  go_enter Try.func48, Try.ntmps48
  go_wp2
  go_ret
  exact ⟨_, rfl, HX.out⟩
theorem rparts_any (o a b k : Int) (i : Nat) (h : TM.may (o, a, b, k) i = true) (w : World) (js : List Nat) (hj : TM.parts (o, a, b, k) = js) :
    Calls Try.prog 48 #[.agg #[.int .i64 o, .int .i64 a, .int .i64 b, .int .u32 k]] w fun e w' => ∃ A c, e = .returned (.slice A js.length c) ∧ Nx w' A js ∧ Below w.heap.size w w' ∧ (∀ P, A = some P → w.heap.size ≤ P.block) := by
  subst hj
  have hm := TM.may_ok h
  simp only at hm
  by_cases h1 : o ≤ 2
  · have e : TM.parts (o, a, b, k) = [] := by unfold TM.parts; rw [if_pos h1]
    rw [e]
    exact (rparts_none o a b k h1 w).mono fun _ _ h => ⟨none, 0, h.1, .inl rfl, h.2, fun P hP => by cases hP⟩
  · have ha : 0 ≤ a := by rcases hm with h | h | h | h <;> omega
    obtain ⟨a', rfl⟩ : ∃ a' : Nat, a = a' := ⟨a.toNat, by omega⟩
    by_cases h2 : o = 384
    · subst h2
      have e : TM.parts (384, (a' : Int), b, k) = [a'] := by unfold TM.parts; rw [if_neg h1, if_pos rfl]; simp
      rw [e]
      exact (rparts_one a' b k w).mono fun _ _ ⟨g, h1, h2, h3, h4⟩ => ⟨_, 1, h1, h2, h3, fun P hP => by cases hP; exact h4⟩
    · have hb : 0 ≤ b := by rcases hm with h | h | h | h <;> omega
      obtain ⟨b', rfl⟩ : ∃ b' : Nat, b = b' := ⟨b.toNat, by omega⟩
      have e : TM.parts (o, (a' : Int), (b' : Int), k) = [a', b'] := by unfold TM.parts; rw [if_neg h1, if_neg h2]; simp
      rw [e]
      exact (rparts_two o a' b' k h1 h2 w).mono fun _ _ ⟨g, h1, h2, h3, h4⟩ => ⟨_, 2, h1, h2, h3, fun P hP => by cases hP; exact h4⟩

set_option maxHeartbeats 3200000 in
set_option maxRecDepth 100000 in
theorem rcheck_any (A : Option Addr) (n cap : Nat) (l : List TM.N) (hln : l.length = n) (hn : n ≤ 9223372036854775807) (ok : ∀ x ∈ l, TM.okN x) (w : World) (hl : LiesN w A l) (p e : Int) (hc : TM.chk l = (p, e)) :
    Calls Try.prog 31 #[.slice A n cap] w fun r w' => r = .returned (.tuple #[.int .i64 p, .int .i64 e]) ∧ Below w.heap.size w w' := by
  by_cases h65 : 65536 < n
  · have e1 : TM.chk l = (0, 5) := by unfold TM.chk; rw [if_pos (by omega)]
    rw [e1] at hc
    injection hc with h1 h2
    subst h1 h2
    have d : decide (65536 < (n : Int)) = true := decide_eq_true (by omega)
    clear hl hln hn ok e1 h65
    go_enter Try.func31, Try.ntmps31
    go_wp2
    go_ret2
    exact ⟨rfl, Below.refl _ _⟩
  · have d : decide (65536 < (n : Int)) = false := decide_eq_false (by omega)
    have hn2 : n ≤ 65536 := by omega
    have HH := hid (And.intro hln (And.intro ok (And.intro hl hc)))
    have HB := hid (Below.refl w.heap.size w)
    clear hln ok hl hc h65
    go_enter Try.func31, Try.ntmps31
    go_wp2
    go_loopw [4] (fun i wr => ∃ k : Nat, k ≤ n ∧ i = .int .i64 k ∧ Hid ((∀ j, j < k → TM.may (TM.nat0 l j) j = true) ∧ Below w.heap.size w wr)) (fun i _ => n - (intOf i).toNat)
    case atStart => exact ⟨0, Nat.zero_le _, rfl, fun j hj => absurd hj (Nat.not_lt_zero _), HB.out⟩
    case round =>
      clear HB
      obtain ⟨k, hk, rfl, HR⟩ := hrel
      by_cases hlt : k < n
      · have i2 : (k : Int) < (n : Int) := by omega
        have hkl : k < l.length := by rw [HH.out.1]; exact hlt
        obtain ⟨b, o, rfl, hly⟩ := HH.out.2.2.1.ly (by omega)
        have h0x := TM.nat0_eq hkl
        have hok := HH.out.2.1 _ (List.getElem_mem hkl)
        obtain ⟨q0, q1, q2, q3⟩ := (hly.below HR.out.2).2 k hkl
        obtain ⟨x, hx⟩ : ∃ x, l[k] = x := ⟨_, rfl⟩
        rw [hx] at q0 q1 q2 q3 h0x hok
        clear hx hly
        obtain ⟨xo, xa, xb, xk⟩ := x
        simp only at q0 q1 q2 q3
        cases hm : TM.may (xo, xa, xb, xk) k with
        | true =>
          have HC := hid (fun W => rmay_any xo xa xb xk hok k W true hm)
          have HM := hid (show ∀ j, j < k + 1 → TM.may (TM.nat0 l j) j = true from fun j hj => by
            by_cases e : j = k
            · subst e; rw [h0x]; exact hm
            · exact HR.out.1 j (by omega))
          clear hm h0x hok
          go_wp2_with fail
          refine (HC.out _).mono ?_
          rintro e w1 ⟨rfl, hb⟩
          have HB := stp (hid HR.out.2) hb
          clear hb HR q0 q1 q2 q3 HC
          go_wp2
          go_roundw
          case rel => exact ⟨k + 1, by omega, by go_num, HM.out, HB.out⟩
          case measure => simp [intOf]; omega
        | false =>
          have HC := hid (fun W => rmay_any xo xa xb xk hok k W false hm)
          have HE := hid (show p = k ∧ e = 3 from by
            have e1 : TM.chk l = ((k : Int), 3) := by
              have hl0 := HH.out.1
              unfold TM.chk
              rw [if_neg (by omega), TM.bad_some.2 ⟨hkl, by rw [h0x]; exact hm, HR.out.1⟩]
            have := HH.out.2.2.2
            rw [e1] at this
            injection this with h1 h2
            exact ⟨h1.symm, h2.symm⟩)
          clear hm h0x hok
          go_wp2_with fail
          refine (HC.out _).mono ?_
          rintro e w1 ⟨rfl, hb⟩
          have HB := stp (hid HR.out.2) hb
          clear hb HR q0 q1 q2 q3 HC
          obtain ⟨rfl, rfl⟩ := HE.out
          clear HE
          go_wp2
          go_ret2
          exact ⟨rfl, HB.out⟩
      · obtain rfl : k = n := by omega
        have HE := hid (show p = 0 ∧ e = 0 from by
          have e1 : TM.chk l = (0, 0) := by
            have hl0 := HH.out.1
            unfold TM.chk
            rw [if_neg (by omega), TM.bad_none.2 (fun i hi => HR.out.1 i (by omega))]
          have := HH.out.2.2.2
          rw [e1] at this
          injection this with h1 h2
          exact ⟨h1.symm, h2.symm⟩)
        have HB := hid HR.out.2
        obtain ⟨rfl, rfl⟩ := HE.out
        clear HE HR
        go_wp2
        go_ret2
        exact ⟨rfl, HB.out⟩

set_option maxHeartbeats 1600000 in
set_option maxRecDepth 100000 in
theorem rrow_any (A : Option Addr) (n cap : Nat) (l : List TM.N) (hln : l.length = n) (hn : n ≤ 9223372036854775807) (ok : ∀ x ∈ l, TM.okN x) (w : World) (hl : LiesN w A l) (q : Bool) (hq : TM.rowB l = q) :
    Calls Try.prog 10 #[.slice A n cap] w fun r w' => r = .returned (.bool q) ∧ Below w.heap.size w w' := by
  obtain ⟨p, e, hc⟩ : ∃ p e, TM.chk l = (p, e) := ⟨_, _, rfl⟩
  have HC := hid (rcheck_any A n cap l hln hn ok w hl p e hc)
  have he : (e == 0) = q := by rw [← hq]; unfold TM.rowB; rw [hc]
  clear hc hq hl ok hln hn
  go_enter Try.func10, Try.ntmps10
  go_wp2_with fail
  refine HC.out.mono ?_
  rintro r w1 ⟨rfl, hb⟩
  have HB := hid hb
  clear hb HC
  go_wp2
  go_ret
  exact ⟨rfl, HB.out⟩
end Go.Proofs.Ytapbeffjnpgglaa.TB
namespace Go.Proofs.Ytapbeffjnpgglaa.TM
/-- in a tree, as it is known where the k first places are still to be looked at -/
def inK (l : List N) (t k j : Nat) : Bool := decide (j = t) || (List.range l.length).any fun q => decide (k ≤ q) && inT l t q && (parts (nat0 l q)).contains j
theorem inK_end (l : List N) (t j : Nat) : inK l t l.length j = decide (j = t) := by
  unfold inK
  have : ((List.range l.length).any fun q => decide (l.length ≤ q) && inT l t q && (parts (nat0 l q)).contains j) = false := by
    rw [List.any_eq_false]
    intro q hq
    rw [List.mem_range] at hq
    rw [decide_eq_false (by omega)]; simp
  rw [this, Bool.or_false]
theorem inK_iff {l : List N} {t k j : Nat} : inK l t k j = true ↔ j = t ∨ ∃ q, q < l.length ∧ k ≤ q ∧ inT l t q = true ∧ j ∈ parts (nat0 l q) := by
  unfold inK
  rw [Bool.or_eq_true, decide_eq_true_eq, List.any_eq_true]
  refine or_congr_right ?_
  constructor
  · rintro ⟨q, h1, h2⟩
    rw [Bool.and_eq_true, Bool.and_eq_true, decide_eq_true_eq, List.contains_iff_mem] at h2
    exact ⟨q, List.mem_range.1 h1, h2.1.1, h2.1.2, h2.2⟩
  · rintro ⟨q, h1, h2, h3, h4⟩
    exact ⟨q, List.mem_range.2 h1, by rw [Bool.and_eq_true, Bool.and_eq_true, decide_eq_true_eq, List.contains_iff_mem]; exact ⟨⟨h2, h3⟩, h4⟩⟩
theorem inK_succ {l : List N} {t q : Nat} (hq : q < l.length) (j : Nat) : inK l t q j = (inK l t (q + 1) j || (inT l t q && (parts (nat0 l q)).contains j)) := by
  rw [Bool.eq_iff_iff, Bool.or_eq_true, Bool.and_eq_true, List.contains_iff_mem, inK_iff, inK_iff]
  constructor
  · rintro (h | ⟨p, h1, h2, h3, h4⟩)
    · exact .inl (.inl h)
    · by_cases e : p = q
      · subst e; exact .inr ⟨h3, h4⟩
      · exact .inl (.inr ⟨p, h1, by omega, h3, h4⟩)
  · rintro ((h | ⟨p, h1, h2, h3, h4⟩) | ⟨h3, h4⟩)
    · exact .inl h
    · exact .inr ⟨p, h1, by omega, h3, h4⟩
    · exact .inr ⟨q, hq, Nat.le_refl _, h3, h4⟩
theorem inK_at (l : List N) (t q : Nat) : inK l t (q + 1) q = inT l t q := by
  rw [Bool.eq_iff_iff, inK_iff, inT_iff]
  refine or_congr_right ?_
  constructor
  · rintro ⟨p, h1, h2, h3, h4⟩; exact ⟨p, h1, by omega, h3, h4⟩
  · rintro ⟨p, h1, h2, h3, h4⟩; exact ⟨p, h1, by omega, h3, h4⟩
theorem inK_zero {l : List N} (hl : Row l) (t j : Nat) : inK l t 0 j = inT l t j := by
  rw [Bool.eq_iff_iff, inK_iff, inT_iff]
  refine or_congr_right ?_
  constructor
  · rintro ⟨p, h1, h2, h3, h4⟩; exact ⟨p, h1, parts_lt (hl.2 p h1) h4, h3, h4⟩
  · rintro ⟨p, h1, h2, h3, h4⟩; exact ⟨p, h1, Nat.zero_le _, h3, h4⟩
theorem take_mem {js : List Nat} {q : Nat} (h : q < js.length) (j : Nat) : j ∈ js.take (q + 1) ↔ j ∈ js.take q ∨ j = js[q] := by
  rw [List.take_succ_eq_append_getElem h, List.mem_append, List.mem_singleton]
theorem parts_len (x : N) : (parts x).length ≤ 2 := by
  unfold parts
  split
  · simp
  · split <;> simp
end Go.Proofs.Ytapbeffjnpgglaa.TM
namespace Go.Proofs.Ytapbeffjnpgglaa.TB
open Go.ChangeShapes Go.WideShapes Go.ChangeAt Go.RowKit
open Go.Sort hiding Below
set_option linter.unusedVariables false
set_option maxRecDepth 100000

set_option maxHeartbeats 3200000 in
set_option maxRecDepth 1000000 in
theorem rin_any (b o n cap t : Nat) (l : List TM.N) (hln : l.length = n) (hr : TM.Row l) (ok : ∀ x ∈ l, TM.okN x) (ht : t < n) (w : World) (hl : LyN w b o l) :
    Calls Try.prog 23 #[.slice (some ⟨b, o, none⟩) n cap, .int .i64 t] w fun e w' => ∃ g, e = .returned (.slice (some ⟨g, 0, none⟩) n n) ∧ Row w' g n (fun j => .bool (TM.inT l t j)) ∧ Below w.heap.size w w' ∧ w.heap.size ≤ g := by
  obtain ⟨i0, hi, hz0, hz1, hz2⟩ := info_parts infob
  have hn : n ≤ 65536 := by rw [← hln]; exact hr.1
  have i1 : (t : Int) < (n : Int) := by omega
  have HH := hid (And.intro hln (And.intro ok (And.intro hl hr)))
  have hbl : b < w.heap.size := hl.1
  clear hln ok hl hr
  go_enter Try.func23, Try.ntmps23
  go_wp2_with (at_make; refine wpList_make_full _ rfl _ _ 51 rfl w.heap.size 4 i0 (.bool false) 1 Try.underlying51 hi hz0 hz1 .i64 .i64 n n n rfl rfl rfl rfl ?c1 ?c2 (Nat.le_refl _) ?_)
  case c1 => rw [hz2]; omega
  case c2 => unfold maxLen; omega
  intro wm hown hgrow
  have hbm : Below w.heap.size w wm := (Below.refl _ _).grown hgrow (Nat.le_refl _) (by intro k hk; cases hk)
  have hR0 : Row wm w.heap.size n (fun _ => .bool false) := Row.of_own hown (fun j hj => made_get (.bool false) n j hj) (hown.lt _ rfl).2
  have cZ := hR0.cell t ht
  have fZ := hR0.froz t ht
  have HM := hid (show Row (wm.setCell ⟨w.heap.size, t, none⟩ (.bool true)) w.heap.size n (fun j => .bool (TM.inK l t n j)) ∧ Below w.heap.size w (wm.setCell ⟨w.heap.size, t, none⟩ (.bool true)) from
    ⟨(hR0.set t ht _).congr (fun j hj => by
      have := TM.inK_end l t j
      rw [HH.out.1] at this
      rw [this]
      by_cases e2 : j = t
      · simp [e2]
      · simp [e2]), hbm.setCell (Nat.le_refl _) _⟩)
  clear hown hgrow hbm hR0
  go_wp2
  generalize wm.setCell ⟨w.heap.size, t, none⟩ (.bool true) = wz at *
  clear cZ fZ
  go_loopw [6] (fun iv wr => ∃ (k : Nat) (v : Int), k ≤ n ∧ iv = .int .i64 v ∧ v + 1 = k ∧ Hid (Row wr w.heap.size n (fun j => .bool (TM.inK l t k j)) ∧ Below w.heap.size w wr)) (fun iv _ => (intOf iv + 1).toNat)
  case atStart => exact ⟨n, (n : Int) - 1, Nat.le_refl _, rfl, by omega, HM.out⟩
  case round =>
    clear HM
    obtain ⟨k, v, hkn, rfl, hvk, HR⟩ := hrel
    rcases k with _ | q
    · obtain rfl : v = -1 := by omega
      have HF := hid (show Row wr w.heap.size n (fun j => .bool (TM.inT l t j)) from HR.out.1.congr fun j _ => by rw [TM.inK_zero HH.out.2.2.2])
      go_wp2
      go_ret
      exact ⟨w.heap.size, rfl, HF.out, HR.out.2, Nat.le_refl _⟩
    · obtain rfl : v = (q : Int) := by omega
      have hqn : q < n := by omega
      have i2 : (q : Int) < (n : Int) := by omega
      have hql : q < l.length := by rw [HH.out.1]; exact hqn
      clear hvk
      have cr := HR.out.1.cell q hqn
      simp only [TM.inK_at] at cr
      cases hc : TM.inT l t q with
      | false =>
        simp only [hc] at cr
        have HF := hid (show Row wr w.heap.size n (fun j => .bool (TM.inK l t q j)) ∧ Below w.heap.size w wr from ⟨HR.out.1.congr fun j _ => by rw [TM.inK_succ hql, hc]; simp, HR.out.2⟩)
        clear hc HR
        go_wp2
        go_roundw
        case rel => exact ⟨q, (q : Int) - 1, by omega, by go_num, by omega, HF.out⟩
        case measure => simp [intOf]
      | true =>
        simp only [hc] at cr
        obtain ⟨x, hx⟩ : ∃ x, l[q] = x := ⟨_, rfl⟩
        have h0x : TM.nat0 l q = x := by rw [TM.nat0_eq hql]; exact hx
        have hmay : TM.may x q = true := by rw [← h0x]; exact HH.out.2.2.2.2 q hql
        obtain ⟨q0, q1, q2, q3⟩ := (by rw [← hx]; exact (HH.out.2.2.1.far HR.out.2 hbl).2 q hql : NodeAt wr b o q x)
        obtain ⟨js, hjs⟩ : ∃ js, TM.parts x = js := ⟨_, rfl⟩
        have HJ := hid (show (∀ y ∈ js, y < n) ∧ ∀ j, TM.inK l t q j = (TM.inK l t (q + 1) j || js.contains j) from
          ⟨fun y hy => by rw [← hjs] at hy; have := TM.parts_lt hmay hy; omega, fun j => by rw [TM.inK_succ hql, hc, h0x, hjs]; simp⟩)
        have hlen : js.length ≤ 2 := by rw [← hjs]; exact TM.parts_len x
        obtain ⟨xo, xa, xb, xk⟩ := x
        have HN := hid (fun W => rparts_any xo xa xb xk q hmay W js hjs)
        simp only at q0 q1 q2 q3
        clear hjs hc hx h0x hmay
        obtain ⟨m, hm⟩ : ∃ m, js.length = m := ⟨_, rfl⟩
        rw [hm] at HN hlen
        go_wp2_with fail
        refine (HN.out _).mono ?_
        rintro e w3 ⟨a, ca, rfl, hnx, hb, hfr⟩
        have HI := hid (show Row w3 w.heap.size n (fun j => .bool (TM.inK l t (q + 1) j || (js.take 0).contains j)) ∧ Below w.heap.size w w3 ∧ Nx w3 a js from
          ⟨(HR.out.1.below hb).congr fun j _ => by simp, (stp (hid HR.out.2) hb).out, hnx⟩)
        have HGN := hid (show ∀ A, a = some A → A.block ≠ w.heap.size from fun A hA => by have := hfr A hA; have := HR.out.1.lt; omega)
        have HMM := hid hm
        clear hb hnx hfr HN HR cr hm q0 q1 q2 q3
        go_wp2
        go_loopw [8] (fun i wr => ∃ s : Nat, s ≤ m ∧ i = .int .i64 s ∧ Hid (Row wr w.heap.size n (fun j => .bool (TM.inK l t (q + 1) j || (js.take s).contains j)) ∧ Below w.heap.size w wr ∧ Nx wr a js)) (fun i _ => m - (intOf i).toNat)
        case atStart => exact ⟨0, Nat.zero_le _, rfl, HI.out⟩
        case round =>
          clear HI
          obtain ⟨s, hs, rfl, HQ⟩ := hrel
          by_cases hs2 : s < m
          · have i3 : (s : Int) < (m : Int) := by omega
            have hsj : s < js.length := by rw [HMM.out]; exact hs2
            obtain ⟨g', rfl⟩ : ∃ g', a = some ⟨g', 0, none⟩ := by
              rcases HQ.out.2.2 with h | ⟨g', e, _⟩
              · rw [h] at hsj; simp at hsj
              · exact ⟨g', e⟩
            have cy := nx_get HQ.out.2.2 s hsj
            obtain ⟨y, hy⟩ : ∃ y, js[s] = y := ⟨_, rfl⟩
            rw [hy] at cy
            have hyn : y < n := HJ.out.1 y (by rw [← hy]; exact List.getElem_mem hsj)
            have i4 : (y : Int) < (n : Int) := by omega
            have HT := hid (show ∀ j, (js.take (s + 1)).contains j = ((js.take s).contains j || decide (j = y)) by
              intro j
              rw [Bool.eq_iff_iff, Bool.or_eq_true, List.contains_iff_mem, List.contains_iff_mem, decide_eq_true_eq, TM.take_mem hsj, hy])
            have cR := HQ.out.1.cell y hyn
            have fR := HQ.out.1.froz y hyn
            clear hy
            go_wp2
            go_roundw
            case rel => exact ⟨s + 1, by omega, by go_num, (HQ.out.1.set y hyn _).congr (fun j hj => by
              rw [HT.out j]
              by_cases e : j = y
              · simp [e]
              · simp [e]), HQ.out.2.1.setCell (Nat.le_refl _) _, HQ.out.2.2.off HGN.out⟩
            case measure => simp [intOf]; omega
          · obtain rfl : s = m := by omega
            have HF := hid (show Row wr w.heap.size n (fun j => .bool (TM.inK l t q j)) from HQ.out.1.congr fun j _ => by rw [HJ.out.2 j, ← HMM.out, List.take_length])
            go_wp2
            go_roundw
            case rel => exact ⟨q, (q : Int) - 1, by omega, by go_num, by omega, HF.out, HQ.out.2.1⟩
            case measure => simp [intOf]
end Go.Proofs.Ytapbeffjnpgglaa.TB
namespace Go.Proofs.Ytapbeffjnpgglaa.TB
open Go.ChangeShapes Go.WideShapes Go.ChangeAt Go.RowKit
open Go.Sort hiding Below
set_option linter.unusedVariables false
set_option maxRecDepth 100000

set_option maxHeartbeats 3200000 in
set_option maxRecDepth 1000000 in
theorem ruses_any (b o n cap t : Nat) (l : List TM.N) (hln : l.length = n) (hr : TM.Row l) (ok : ∀ x ∈ l, TM.okN x) (ht : t < n) (w : World) (hl : LyN w b o l) :
    Calls Try.prog 25 #[.slice (some ⟨b, o, none⟩) n cap, .int .i64 t] w fun e w' => e = .returned (.int .u16 ((TM.uses l t : Nat) : Int)) ∧ Below w.heap.size w w' := by
  have hn : n ≤ 65536 := by rw [← hln]; exact hr.1
  have HI := hid (rin_any b o n cap t l hln hr ok ht w hl)
  have HH := hid (And.intro hln (And.intro ok (And.intro hl hr)))
  have hbl : b < w.heap.size := hl.1
  clear hln ok hl hr
  go_enter Try.func25, Try.ntmps25
  go_wp2_with fail
  refine HI.out.mono ?_
  rintro e w1 ⟨g, rfl, hR, hb, hg⟩
  have HM := hid (And.intro hR hb)
  clear hR hb HI hg
  go_wp2
  go_loopw [5, 7] (fun nv iv wr => ∃ (k u : Nat), k ≤ n ∧ u < 65536 ∧ nv = .int .u16 u ∧ iv = .int .i64 k ∧ Hid (TM.usesK l t k = u ∧ Row wr g n (fun j => .bool (TM.inT l t j)) ∧ Below w.heap.size w wr)) (fun _ iv _ => n - (intOf iv).toNat)
  case atStart => exact ⟨0, 0, Nat.zero_le _, by omega, rfl, rfl, rfl, HM.out⟩
  case round =>
    clear HM
    obtain ⟨k, u, hk, hu, rfl, rfl, HR⟩ := hrel
    by_cases hlt : k < n
    · have i2 : (k : Int) < (n : Int) := by omega
      have hkl : k < l.length := by rw [HH.out.1]; exact hlt
      have cr := HR.out.2.1.cell k hlt
      have h0x := TM.nat0_eq hkl
      have hokx := TM.nat0_ok HH.out.2.1 k
      have HK := hid (show TM.usesK l t (k + 1) = if TM.inT l t k = true ∧ (TM.nat0 l k).1 = 2 then u ||| 2 ^ (TM.nat0 l k).2.2.2.toNat else u from by rw [TM.usesK, HR.out.1])
      have HW := hid (fun h => TM.word_lt HH.out.2.2.2 hkl h)
      obtain ⟨q0, q1, q2, q3⟩ := (HH.out.2.2.1.far HR.out.2.2 hbl).2 k hkl
      obtain ⟨x, hx⟩ : ∃ x, l[k] = x := ⟨_, rfl⟩
      rw [hx] at q0 q1 q2 q3 h0x
      rw [h0x] at HK HW hokx
      clear hx h0x
      obtain ⟨xo, xa, xb, xk⟩ := x
      simp only at q0 q1 q2 q3 HK HW
      obtain ⟨_, _, _, b3⟩ := hokx
      simp only at b3
      obtain ⟨d, rfl⟩ : ∃ d : Nat, xk = d := ⟨xk.toNat, by omega⟩
      simp only [Int.toNat_natCast] at HK
      cases hc : TM.inT l t k with
      | false =>
        simp only [hc] at cr
        have HF := hid (show TM.usesK l t (k + 1) = u from by rw [HK.out, if_neg (by rw [hc]; simp)])
        clear hc
        go_wp2
        go_roundw
        case rel => exact ⟨k + 1, u, by omega, hu, rfl, by go_num, HF.out, HR.out.2⟩
        case measure => simp [intOf]; omega
      | true =>
        simp only [hc] at cr
        by_cases h2 : xo = 2
        · subst h2
          have hd := HW.out rfl
          have hd2 : d < 16 := by omega
          obtain ⟨p2, hp2⟩ : ∃ p2 : Nat, 2 ^ d = p2 := ⟨_, rfl⟩
          have hpl : p2 < 65536 := by
            rw [← hp2]
            have : (2 : Nat) ^ d < 2 ^ 16 := Nat.pow_lt_pow_right (by omega) hd2
            omega
          have hwv : IntKind.u16.wrap (2 ^ d) = (p2 : Int) := by
            rw [IntKind.wrap_u16, show (2 : Int) ^ d = (p2 : Int) by rw [← hp2]; simp]
            omega
          obtain ⟨z, hzz⟩ : ∃ z : Nat, u ||| p2 = z := ⟨_, rfl⟩
          have hz : z < 65536 := by rw [← hzz]; exact Nat.or_lt_two_pow (n := 16) hu hpl
          have hor : bits .or .u16 (u : Int) (p2 : Int) = (z : Int) := by
            rw [u16_or _ _ (by omega) (by omega) (by omega) (by omega), ← hzz]; simp
          have HF := hid (show TM.usesK l t (k + 1) = z from by rw [HK.out, if_pos ⟨hc, rfl⟩, hp2, hzz])
          clear hc hzz hp2 HK HW hd
          go_wp2
          go_roundw
          case rel => exact ⟨k + 1, z, by omega, hz, by first | rfl | (rw [← hor]), by go_num, HF.out, HR.out.2⟩
          case measure => simp [intOf]; omega
        · have d2 : (xo == 2) = false := beq_eq_false_iff_ne.2 h2
          have HF := hid (show TM.usesK l t (k + 1) = u from by rw [HK.out, if_neg (fun h => h2 h.2)])
          clear hc h2 HK HW
          go_wp2
          go_roundw
          case rel => exact ⟨k + 1, u, by omega, hu, rfl, by go_num, HF.out, HR.out.2⟩
          case measure => simp [intOf]; omega
    · obtain rfl : k = n := by omega
      have HF := hid (show TM.uses l t = u from by unfold TM.uses; rw [HH.out.1]; exact HR.out.1)
      go_wp2
      go_ret
      exact ⟨by rw [HF.out]; rfl, HR.out.2.2⟩

set_option maxHeartbeats 3200000 in
set_option maxRecDepth 1000000 in
theorem rsizes_any (A : Option Addr) (n cap : Nat) (l : List TM.N) (hln : l.length = n) (hr : TM.Row l) (ok : ∀ x ∈ l, TM.okN x) (w : World) (hl : LiesN w A l) :
    Calls Try.prog 26 #[.slice A n cap] w fun e w' => ∃ g, e = .returned (.slice (some ⟨g, 0, none⟩) n n) ∧ Row w' g n (fun j => .int .u64 ((TM.sz l j : Nat) : Int)) ∧ Below w.heap.size w w' ∧ w.heap.size ≤ g := by
  obtain ⟨i0, hi, hz0, hz1, hz2⟩ := info_parts infoU
  have hn : n ≤ 65536 := by rw [← hln]; exact hr.1
  have HH := hid (And.intro hln (And.intro ok (And.intro hl hr)))
  clear hln ok hl hr
  go_enter Try.func26, Try.ntmps26
  go_wp2_with (at_make; refine wpList_make_full _ rfl _ _ 59 rfl w.heap.size 61 i0 (.int .u64 0) 1 Try.underlying59 hi hz0 hz1 .i64 .i64 n n n rfl rfl rfl rfl ?c1 ?c2 (Nat.le_refl _) ?_)
  case c1 => rw [hz2]; omega
  case c2 => unfold maxLen; omega
  intro wm hown hgrow
  have hbm : Below w.heap.size w wm := (Below.refl _ _).grown hgrow (Nat.le_refl _) (by intro k hk; cases hk)
  have HM := hid (show Row wm w.heap.size n (fun j => .int .u64 ((if j < 0 then TM.sz l j else 0 : Nat) : Int)) ∧ Below w.heap.size w wm from ⟨(Row.of_own hown (fun j hj => made_get (.int .u64 0) n j hj) (hown.lt _ rfl).2).congr fun j _ => rfl, hbm⟩)
  clear hown hgrow hbm
  go_wp2
  go_loopw [4] (fun iv wr => ∃ (k : Nat), k ≤ n ∧ iv = .int .i64 k ∧ Hid (Row wr w.heap.size n (fun j => .int .u64 ((if j < k then TM.sz l j else 0 : Nat) : Int)) ∧ Below w.heap.size w wr)) (fun iv _ => n - (intOf iv).toNat)
  case atStart => exact ⟨0, Nat.zero_le _, rfl, HM.out⟩
  case round =>
    clear HM
    obtain ⟨k, hk, rfl, HR⟩ := hrel
    by_cases hlt : k < n
    · have i2 : (k : Int) < (n : Int) := by omega
      have hkl : k < l.length := by rw [HH.out.1]; exact hlt
      obtain ⟨b, o, rfl, hly⟩ := HH.out.2.2.1.ly (by omega)
      obtain ⟨x, hx⟩ : ∃ x, l[k] = x := ⟨_, rfl⟩
      have h0x : TM.nat0 l k = x := by rw [TM.nat0_eq hkl]; exact hx
      have hmay : TM.may x k = true := by rw [← h0x]; exact HH.out.2.2.2.2 k hkl
      obtain ⟨q0, q1, q2, q3⟩ := (by rw [← hx]; exact (hly.far HR.out.2 hly.1).2 k hkl : NodeAt wr b o k x)
      obtain ⟨js, hjs⟩ : ∃ js, TM.parts x = js := ⟨_, rfl⟩
      have HJ := hid (show (∀ y ∈ js, y < k) ∧ TM.sz l k = min (1 + (js.map (TM.sz l)).sum) 1125899906842624 ∧ (∀ y, y < n → TM.sz l y ≤ 1125899906842624) from
        ⟨fun y hy => by rw [← hjs] at hy; exact TM.parts_lt hmay hy, by rw [TM.sz_row HH.out.2.2.2 hkl, h0x]; unfold TM.szN; rw [hjs], fun y hy => TM.sz_le l y HH.out.2.2.2 (by rw [HH.out.1]; exact hy)⟩)
      have hlen : js.length ≤ 2 := by rw [← hjs]; exact TM.parts_len x
      obtain ⟨xo, xa, xb, xk⟩ := x
      have HN := hid (fun W => rparts_any xo xa xb xk k hmay W js hjs)
      simp only at q0 q1 q2 q3
      clear hjs hx h0x hmay hly
      obtain ⟨m, hm⟩ : ∃ m, js.length = m := ⟨_, rfl⟩
      rw [hm] at HN hlen
      go_wp2_with fail
      refine (HN.out _).mono ?_
      rintro e w3 ⟨a, ca, rfl, hnx, hb, hfr⟩
      have HI := hid (show Row w3 w.heap.size n (fun j => .int .u64 ((if j < k then TM.sz l j else 0 : Nat) : Int)) ∧ Below w.heap.size w w3 ∧ Nx w3 a js from
        ⟨HR.out.1.below hb, (stp (hid HR.out.2) hb).out, hnx⟩)
      have HGN := hid (show ∀ A, a = some A → A.block ≠ w.heap.size from fun A hA => by have := hfr A hA; have := HR.out.1.lt; omega)
      have HMM := hid hm
      clear hb hnx hfr HN HR hm q0 q1 q2 q3
      go_wp2
      go_loopw [5, 7] (fun nv iv wr => ∃ s u : Nat, s ≤ m ∧ u ≤ 1 + s * 1125899906842624 ∧ nv = .int .u64 u ∧ iv = .int .i64 s ∧ Hid (u = 1 + ((js.take s).map (TM.sz l)).sum ∧ Row wr w.heap.size n (fun j => .int .u64 ((if j < k then TM.sz l j else 0 : Nat) : Int)) ∧ Below w.heap.size w wr ∧ Nx wr a js)) (fun _ iv _ => m - (intOf iv).toNat)
      case atStart => exact ⟨0, 1, Nat.zero_le _, by omega, rfl, rfl, by simp, HI.out⟩
      case round =>
        clear HI
        obtain ⟨s, u, hs, hub, rfl, rfl, HQ⟩ := hrel
        by_cases hs2 : s < m
        · have i3 : (s : Int) < (m : Int) := by omega
          have hsj : s < js.length := by rw [HMM.out]; exact hs2
          obtain ⟨g', rfl⟩ : ∃ g', a = some ⟨g', 0, none⟩ := by
            rcases HQ.out.2.2.2 with h | ⟨g', e, _⟩
            · rw [h] at hsj; simp at hsj
            · exact ⟨g', e⟩
          have cy := nx_get HQ.out.2.2.2 s hsj
          obtain ⟨y, hy⟩ : ∃ y, js[s] = y := ⟨_, rfl⟩
          rw [hy] at cy
          have hyk : y < k := HJ.out.1 y (by rw [← hy]; exact List.getElem_mem hsj)
          have i4 : (y : Int) < (n : Int) := by omega
          have cR := HQ.out.2.1.cell y (by omega)
          rw [if_pos hyk] at cR
          have hvb := HJ.out.2.2 y (by omega)
          obtain ⟨v, hv⟩ : ∃ v, TM.sz l y = v := ⟨_, rfl⟩
          rw [hv] at cR hvb
          have HU := hid (show u + v = 1 + ((js.take (s + 1)).map (TM.sz l)).sum from by
            rw [List.take_succ_eq_append_getElem hsj, List.map_append, List.sum_append, hy, HQ.out.1]
            simp [hv]; omega)
          have hub2 : u + v ≤ 1 + (s + 1) * 1125899906842624 := by omega
          have hub3 : (u : Int) + (v : Int) < 18446744073709551616 := by
            have : s * 1125899906842624 ≤ 2 * 1125899906842624 := Nat.mul_le_mul_right _ (by omega)
            omega
          have hwr : IntKind.u64.wrap ((u : Int) + (v : Int)) = ((u + v : Nat) : Int) := by rw [IntKind.wrap_u64]; omega
          have HUB := hid hub2
          clear hy hv hub hub2 hvb
          go_wp2
          go_roundw
          case rel => exact ⟨s + 1, u + v, by omega, HUB.out, by go_num, by go_num, HU.out, HQ.out.2⟩
          case measure => simp [intOf]; omega
        · obtain rfl : s = m := by omega
          have hmin : TM.sz l k = min u 1125899906842624 := by rw [HJ.out.2.1, HQ.out.1, ← HMM.out, List.take_length]
          have c4 := HQ.out.2.1.cell k hlt
          have f4 := HQ.out.2.1.froz k hlt
          obtain ⟨z, hz⟩ : ∃ z, min u 1125899906842624 = z := ⟨_, rfl⟩
          rw [hz] at hmin
          obtain ⟨V, hV⟩ : ∃ V, wr.setCell ⟨w.heap.size, k, none⟩ (.int .u64 (z : Int)) = V := ⟨_, rfl⟩
          have HF := hid (show Row V w.heap.size n (fun j => .int .u64 ((if j < k + 1 then TM.sz l j else 0 : Nat) : Int)) ∧ Below w.heap.size w V from by
            rw [← hV]
            exact ⟨(HQ.out.2.1.set k hlt _).congr fun j hj => by
              by_cases e : j = k
              · subst e; rw [if_pos rfl, if_pos (by omega), hmin]
              · rw [if_neg e]
                by_cases e2 : j < k
                · rw [if_pos e2, if_pos (by omega)]
                · rw [if_neg e2, if_neg (by omega)], HQ.out.2.2.1.setCell (Nat.le_refl _) _⟩)
          have hmn : (if (u : Int) ≤ 1125899906842624 then (u : Int) else 1125899906842624) = (z : Int) := by
            rw [← hz]; split <;> omega
          have hmn2 : (if 1125899906842624 < (u : Int) then 1125899906842624 else (u : Int)) = (z : Int) := by
            rw [← hz]; split <;> omega
          clear hz hmin hub HQ
          go_wp2
          go_roundw
          case rel => exact ⟨k + 1, by omega, by go_num, HF.out⟩
          case measure => simp [intOf]; omega
    · obtain rfl : k = n := by omega
      have HF := hid (show Row wr w.heap.size k (fun j => .int .u64 ((TM.sz l j : Nat) : Int)) from HR.out.1.congr fun j hj => by rw [if_pos hj])
      go_wp2
      go_ret
      exact ⟨w.heap.size, rfl, HF.out, HR.out.2, Nat.le_refl _⟩
end Go.Proofs.Ytapbeffjnpgglaa.TB
