/-
  The reference's May, Check, Right and Parts of layer 11, as walks over the Go text.
-/
import Derived.Test.YtkeigicobcjleabTerRefM
namespace Go.Proofs.Ytkeigicobcjleab.TB
open Go.ChangeShapes Go.WideShapes Go.ChangeAt Go.RowKit
open Go.Sort hiding Below
set_option linter.unusedVariables false
set_option maxRecDepth 100000

theorem rmay_any (o a b k : Int) (ok : TM.okN (o, a, b, k)) (i : Nat) (w : World) (q : Bool) (hq : TM.may (o, a, b, k) i = q) :
    Calls Try.prog 42 #[.agg #[.int .i64 o, .int .i64 a, .int .i64 b, .int .u32 k], .int .i64 i] w fun e w' => e = .returned (.bool q) ∧ Below w.heap.size w w' := by
  subst hq
  have n1 : ∀ x : Int, (!decide (x < 0)) = decide (0 ≤ x) := fun x => by rw [← decide_not]; exact decide_eq_decide.2 (by omega)
  have n2 : (!decide ((i : Int) ≤ a)) = decide (a < (i : Int)) := by rw [← decide_not]; exact decide_eq_decide.2 (by omega)
  by_cases h1 : o = 1
  · subst h1
    rw [TM.may_num (x := (1, a, b, k)) rfl]
    exact rmay_num a b k i w
  · by_cases h2 : o = 2
    · subst h2
      rw [TM.may_word (x := (2, a, b, k)) rfl]
      exact rmay_word a b k i w
    · cases h : TM.isA o with
      | false => rw [TM.may_none (x := (o, a, b, k)) h1 h2 h]; exact rmay_none o a b k h1 h2 h i w
      | true =>
        by_cases h3 : o = 384
        · subst h3
          have e := rmay_neg a b k i w
          rw [n1, n2] at e
          rw [TM.may_neg (x := (384, a, b, k)) rfl]
          exact e
        · have h9 : o = 256 ∨ o = 272 ∨ o = 288 ∨ o = 304 ∨ o = 320 ∨ o = 336 ∨ o = 352 ∨ o = 368 ∨ o = 416 := by
            rcases TM.isA_iff.1 h with h | h | h | h | h | h | h | h | h | h <;> first | (exfalso; exact h3 h) | simp [h]
          have e := rmay_two o a b k h9 i w
          rw [n1, n2] at e
          rw [TM.may_two (x := (o, a, b, k)) h h3]
          exact e

/-- a row of places -/
def Nx (w : World) (a : Option Addr) (js : List Nat) : Prop := js = [] ∨ ∃ g, a = some ⟨g, 0, none⟩ ∧ g < w.heap.size ∧ ∀ j (h : j < js.length), w.cell? ⟨g, j, none⟩ = some (.int .i64 (js[j] : Int))
theorem Nx.far {w w' : World} {a : Option Addr} {js : List Nat} {B : Nat} (h : Nx w a js) (hb : Below B w w') (hB : ∀ A, a = some A → A.block < B) : Nx w' a js := by
  rcases h with h | ⟨g, rfl, h1, h2⟩
  · exact .inl h
  · exact .inr ⟨g, rfl, Nat.lt_of_lt_of_le h1 hb.size, fun j hj => (hb.cell (p := ⟨g, j, none⟩) (hB ⟨g, 0, none⟩ rfl)).trans (h2 j hj)⟩
theorem Nx.below {w w' : World} {a : Option Addr} {js : List Nat} (h : Nx w a js) (hb : Below w.heap.size w w') : Nx w' a js := by
  rcases h with h | ⟨g, rfl, h1, h2⟩
  · exact .inl h
  · exact Nx.far (.inr ⟨g, rfl, h1, h2⟩) hb (fun A hA => by cases hA; exact h1)
theorem Nx.off {w : World} {a : Option Addr} {js : List Nat} {b k : Nat} {v : Value} (h : Nx w a js) (hne : ∀ A, a = some A → A.block ≠ b) : Nx (w.setCell ⟨b, k, none⟩ v) a js := by
  rcases h with h | ⟨g, rfl, h1, h2⟩
  · exact .inl h
  · exact .inr ⟨g, rfl, by simpa using h1, fun j hj => by rw [World.cell?_setCell_far _ _ _ _ (by simpa using fun x => hne ⟨g, 0, none⟩ rfl x.symm)]; exact h2 j hj⟩
theorem nx_get {w : World} {g : Nat} {js : List Nat} (h : Nx w (some ⟨g, 0, none⟩) js) (k : Nat) (hk : k < js.length) : w.cell? ⟨g, k, none⟩ = some (.int .i64 (js[k] : Int)) := by
  rcases h with h | ⟨g', e, _, h⟩
  · rw [h] at hk; simp at hk
  · injection e with e
    injection e with e
    subst e
    exact h k hk
theorem cell_lit (w : World) (l : List Value) (t : TypeId) (j : Nat) : (w.alloc (.cells l.toArray t)).cell? ⟨w.heap.size, j, none⟩ = l[j]? := by
  simp only [World.cell?, World.alloc_heap_new]
  simp
theorem nx_new (w : World) (js : List Nat) (t : TypeId) : Nx (w.alloc (.cells (js.map (fun (x : Nat) => Value.int .i64 (x : Int))).toArray t)) (some ⟨w.heap.size, 0, none⟩) js :=
  .inr ⟨_, rfl, by simp, fun j h => by rw [cell_lit, List.getElem?_map, List.getElem?_eq_getElem h]; rfl⟩

set_option maxHeartbeats 3200000 in
set_option maxRecDepth 100000 in
theorem rcheck_any (A : Option Addr) (n cap : Nat) (l : List TM.N) (hln : l.length = n) (hn : n ≤ 9223372036854775807) (ok : ∀ x ∈ l, TM.okN x) (w : World) (hl : LiesN w A l) (p e : Int) (hc : TM.chk l = (p, e)) :
    Calls Try.prog 30 #[.slice A n cap] w fun r w' => r = .returned (.tuple #[.int .i64 p, .int .i64 e]) ∧ Below w.heap.size w w' := by
  by_cases h65 : 65536 < n
  · have e1 : TM.chk l = (0, 5) := by unfold TM.chk; rw [if_pos (by omega)]
    rw [e1] at hc
    injection hc with h1 h2
    subst h1 h2
    have d : decide (65536 < (n : Int)) = true := decide_eq_true (by omega)
    clear hl hln hn ok e1 h65
    go_enter Try.func30, Try.ntmps30
    go_wp2
    go_ret2
    exact ⟨rfl, Below.refl _ _⟩
  · have d : decide (65536 < (n : Int)) = false := decide_eq_false (by omega)
    have hn2 : n ≤ 65536 := by omega
    have HH := hid (And.intro hln (And.intro ok (And.intro hl hc)))
    have HB := hid (Below.refl w.heap.size w)
    clear hln ok hl hc h65
    go_enter Try.func30, Try.ntmps30
    go_wp2
    go_loopw [4] (fun i wr => ∃ k : Nat, k ≤ n ∧ i = .int .i64 k ∧ Hid ((∀ j, j < k → TM.may (TM.nat0 l j) j = true) ∧ Below w.heap.size w wr)) (fun i _ => n - (intOf i).toNat)
    case atStart => exact ⟨0, Nat.zero_le _, rfl, fun j hj => absurd hj (Nat.not_lt_zero _), HB.out⟩
    case round =>
      clear HB
      obtain ⟨k, hk, rfl, HR⟩ := hrel
      by_cases hlt : k < n
      · have i2 : (k : Int) < (n : Int) := by omega
        have hkl : k < l.length := by rw [HH.out.1]; exact hlt
        obtain ⟨b, o, rfl, hly⟩ := HH.out.2.2.1.ly (by omega)
        have h0x := TM.nat0_eq hkl
        have hok := HH.out.2.1 _ (List.getElem_mem hkl)
        obtain ⟨q0, q1, q2, q3⟩ := (hly.below HR.out.2).2 k hkl
        obtain ⟨x, hx⟩ : ∃ x, l[k] = x := ⟨_, rfl⟩
        rw [hx] at q0 q1 q2 q3 h0x hok
        clear hx hly
        obtain ⟨xo, xa, xb, xk⟩ := x
        simp only at q0 q1 q2 q3
        cases hm : TM.may (xo, xa, xb, xk) k with
        | true =>
          have HC := hid (fun W => rmay_any xo xa xb xk hok k W true hm)
          have HM := hid (show ∀ j, j < k + 1 → TM.may (TM.nat0 l j) j = true from fun j hj => by
            by_cases e : j = k
            · subst e; rw [h0x]; exact hm
            · exact HR.out.1 j (by omega))
          clear hm h0x hok
          go_wp2_with fail
          refine (HC.out _).mono ?_
          rintro e w1 ⟨rfl, hb⟩
          have HB := stp (hid HR.out.2) hb
          clear hb HR q0 q1 q2 q3 HC
          go_wp2
          go_roundw
          case rel => exact ⟨k + 1, by omega, by go_num, HM.out, HB.out⟩
          case measure => simp [intOf]; omega
        | false =>
          have HC := hid (fun W => rmay_any xo xa xb xk hok k W false hm)
          have HE := hid (show p = k ∧ e = 3 from by
            have e1 : TM.chk l = ((k : Int), 3) := by
              have hl0 := HH.out.1
              unfold TM.chk
              rw [if_neg (by omega), TM.bad_some.2 ⟨hkl, by rw [h0x]; exact hm, HR.out.1⟩]
            have := HH.out.2.2.2
            rw [e1] at this
            injection this with h1 h2
            exact ⟨h1.symm, h2.symm⟩)
          clear hm h0x hok
          go_wp2_with fail
          refine (HC.out _).mono ?_
          rintro e w1 ⟨rfl, hb⟩
          have HB := stp (hid HR.out.2) hb
          clear hb HR q0 q1 q2 q3 HC
          obtain ⟨rfl, rfl⟩ := HE.out
          clear HE
          go_wp2
          go_ret2
          exact ⟨rfl, HB.out⟩
      · obtain rfl : k = n := by omega
        have HE := hid (show p = 0 ∧ e = 0 from by
          have e1 : TM.chk l = (0, 0) := by
            have hl0 := HH.out.1
            unfold TM.chk
            rw [if_neg (by omega), TM.bad_none.2 (fun i hi => HR.out.1 i (by omega))]
          have := HH.out.2.2.2
          rw [e1] at this
          injection this with h1 h2
          exact ⟨h1.symm, h2.symm⟩)
        have HB := hid HR.out.2
        obtain ⟨rfl, rfl⟩ := HE.out
        clear HE HR
        go_wp2
        go_ret2
        exact ⟨rfl, HB.out⟩

set_option maxHeartbeats 1600000 in
set_option maxRecDepth 100000 in
theorem rrow_any (A : Option Addr) (n cap : Nat) (l : List TM.N) (hln : l.length = n) (hn : n ≤ 9223372036854775807) (ok : ∀ x ∈ l, TM.okN x) (w : World) (hl : LiesN w A l) (q : Bool) (hq : TM.rowB l = q) :
    Calls Try.prog 11 #[.slice A n cap] w fun r w' => r = .returned (.bool q) ∧ Below w.heap.size w w' := by
  obtain ⟨p, e, hc⟩ : ∃ p e, TM.chk l = (p, e) := ⟨_, _, rfl⟩
  have HC := hid (rcheck_any A n cap l hln hn ok w hl p e hc)
  have he : (e == 0) = q := by rw [← hq]; unfold TM.rowB; rw [hc]
  clear hc hq hl ok hln hn
  go_enter Try.func11, Try.ntmps11
  go_wp2_with fail
  refine HC.out.mono ?_
  rintro r w1 ⟨rfl, hb⟩
  have HB := hid hb
  clear hb HC
  go_wp2
  go_ret
  exact ⟨rfl, HB.out⟩
end Go.Proofs.Ytkeigicobcjleab.TB
namespace Go.Proofs.Ytkeigicobcjleab.TM
/-- in a tree, as it is known where the k first places are still to be looked at -/
def inK (l : List N) (t k j : Nat) : Bool := decide (j = t) || (List.range l.length).any fun q => decide (k ≤ q) && inT l t q && (parts (nat0 l q)).contains j
theorem inK_end (l : List N) (t j : Nat) : inK l t l.length j = decide (j = t) := by
  unfold inK
  have : ((List.range l.length).any fun q => decide (l.length ≤ q) && inT l t q && (parts (nat0 l q)).contains j) = false := by
    rw [List.any_eq_false]
    intro q hq
    rw [List.mem_range] at hq
    rw [decide_eq_false (by omega)]; simp
  rw [this, Bool.or_false]
theorem inK_iff {l : List N} {t k j : Nat} : inK l t k j = true ↔ j = t ∨ ∃ q, q < l.length ∧ k ≤ q ∧ inT l t q = true ∧ j ∈ parts (nat0 l q) := by
  unfold inK
  rw [Bool.or_eq_true, decide_eq_true_eq, List.any_eq_true]
  refine or_congr_right ?_
  constructor
  · rintro ⟨q, h1, h2⟩
    rw [Bool.and_eq_true, Bool.and_eq_true, decide_eq_true_eq, List.contains_iff_mem] at h2
    exact ⟨q, List.mem_range.1 h1, h2.1.1, h2.1.2, h2.2⟩
  · rintro ⟨q, h1, h2, h3, h4⟩
    exact ⟨q, List.mem_range.2 h1, by rw [Bool.and_eq_true, Bool.and_eq_true, decide_eq_true_eq, List.contains_iff_mem]; exact ⟨⟨h2, h3⟩, h4⟩⟩
theorem inK_succ {l : List N} {t q : Nat} (hq : q < l.length) (j : Nat) : inK l t q j = (inK l t (q + 1) j || (inT l t q && (parts (nat0 l q)).contains j)) := by
  rw [Bool.eq_iff_iff, Bool.or_eq_true, Bool.and_eq_true, List.contains_iff_mem, inK_iff, inK_iff]
  constructor
  · rintro (h | ⟨p, h1, h2, h3, h4⟩)
    · exact .inl (.inl h)
    · by_cases e : p = q
      · subst e; exact .inr ⟨h3, h4⟩
      · exact .inl (.inr ⟨p, h1, by omega, h3, h4⟩)
  · rintro ((h | ⟨p, h1, h2, h3, h4⟩) | ⟨h3, h4⟩)
    · exact .inl h
    · exact .inr ⟨p, h1, by omega, h3, h4⟩
    · exact .inr ⟨q, hq, Nat.le_refl _, h3, h4⟩
theorem inK_at (l : List N) (t q : Nat) : inK l t (q + 1) q = inT l t q := by
  rw [Bool.eq_iff_iff, inK_iff, inT_iff]
  refine or_congr_right ?_
  constructor
  · rintro ⟨p, h1, h2, h3, h4⟩; exact ⟨p, h1, by omega, h3, h4⟩
  · rintro ⟨p, h1, h2, h3, h4⟩; exact ⟨p, h1, by omega, h3, h4⟩
theorem inK_zero {l : List N} (hl : Row l) (t j : Nat) : inK l t 0 j = inT l t j := by
  rw [Bool.eq_iff_iff, inK_iff, inT_iff]
  refine or_congr_right ?_
  constructor
  · rintro ⟨p, h1, h2, h3, h4⟩; exact ⟨p, h1, parts_lt (hl.2 p h1) h4, h3, h4⟩
  · rintro ⟨p, h1, h2, h3, h4⟩; exact ⟨p, h1, Nat.zero_le _, h3, h4⟩
theorem take_mem {js : List Nat} {q : Nat} (h : q < js.length) (j : Nat) : j ∈ js.take (q + 1) ↔ j ∈ js.take q ∨ j = js[q] := by
  rw [List.take_succ_eq_append_getElem h, List.mem_append, List.mem_singleton]
theorem parts_len (x : N) : (parts x).length ≤ 2 := by
  unfold parts
  split
  · simp
  · split <;> simp
end Go.Proofs.Ytkeigicobcjleab.TM
namespace Go.Proofs.Ytkeigicobcjleab.TB
open Go.ChangeShapes Go.WideShapes Go.ChangeAt Go.RowKit
open Go.Sort hiding Below
set_option linter.unusedVariables false
set_option maxRecDepth 100000

end Go.Proofs.Ytkeigicobcjleab.TB
namespace Go.Proofs.Ytkeigicobcjleab.TB
open Go.ChangeShapes Go.WideShapes Go.ChangeAt Go.RowKit
open Go.Sort hiding Below
set_option linter.unusedVariables false
set_option maxRecDepth 100000

end Go.Proofs.Ytkeigicobcjleab.TB
