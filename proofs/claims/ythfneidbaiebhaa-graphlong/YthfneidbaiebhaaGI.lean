/-
  The statements of layer 8, whole: what is too long, what is no filter, what is one.
-/
import Derived.Test.YthfneidbaiebhaaGF
import Derived.Test.YthfneidbaiebhaaGH
namespace Go.Proofs.Ythfneidbaiebhaa.B
open Go.ChangeShapes Go.WideShapes Go.ChangeAt Go.RowKit
open Go.Sort hiding Below
set_option linter.unusedVariables false

set_option maxHeartbeats 1600000 in
set_option maxRecDepth 100000 in
theorem tells_big (a : Option Addr) (n cap : Nat) (hn : 200 < n) (w : World) :
    Calls Try.prog 3 #[.slice a n cap] w fun e w' => e = .returned (.bool true) ∧ Below w.heap.size w w' := by
  have hd : decide (200 < (n : Int)) = true := decide_eq_true (by omega)
  have HB := hid (Below.refl w.heap.size w)
  clear hn
  go_enter Try.func3, Try.ntmps3
  go_wp2_with fail
  refine (awake_any _).mono ?_
  rintro e w1 ⟨rfl, hb⟩
  replace HB := stp HB hb
  clear hb
  go_wp2_with fail
  refine (awake_any _).mono ?_
  rintro e w2 ⟨rfl, hb⟩
  replace HB := stp HB hb
  clear hb
  go_wp2
  go_ret
  exact ⟨rfl, HB.out⟩
theorem tells_law (a : Option Addr) (cap : Nat) (l : List M.I) (ok : ∀ i ∈ l, M.okI i) (w : World) (hl : Lies w a l) :
    Calls Try.prog 3 #[.slice a l.length cap] w fun e w' => e = .returned (.bool true) ∧ Below w.heap.size w w' := by
  by_cases hn : l.length ≤ 200
  · cases hb : M.rightB l with
    | false =>
      refine tells_loop a l.length cap l rfl hn ok w hl awake_any (fun W h i => gnextI a _ cap l rfl (by omega) ok W h i) hb ?_ ?_ ?_ ?_
      · exact fun W h => (greached_bad a _ cap l rfl (by omega) ok W h hb).mono fun e w' h => ⟨none, 0, h.1, h.2⟩
      · exact fun W h => (ginto_bad a _ cap l rfl (by omega) ok W h hb).mono fun e w' h => ⟨none, 0, h.1, h.2⟩
      · exact fun W h => glongest_bad a _ cap l rfl (by omega) ok W h hb
      · exact fun W h => rright8 a _ cap l rfl (by omega) ok W h false hb
    | true =>
      have hr := M.right_of.1 hb
      have h0 := ((M.right_iff l).1 hr).1.1
      obtain ⟨b, o, rfl, hly⟩ := hl.ly (by omega)
      have hL : ∀ W, Lies W (some ⟨b, o, none⟩) l → Ly W b o l := fun W h => by
        obtain ⟨b', o', e, h'⟩ := h.ly (by omega)
        injection e with e
        injection e with e1 e2
        subst e1 e2
        exact h'
      refine tells_good b o l.length cap l rfl hn ok hr w hly awake_any (fun W h i => gnextI _ _ cap l rfl (by omega) ok W h i) ?_ ?_ ?_ ?_
      · exact fun W h => (gReached b o _ cap l rfl (by omega) ok hr W (hL W h)).mono fun e w' ⟨g, h1, h2, h3, _⟩ => ⟨g, _, h1, h2, h3⟩
      · exact fun W h => (gInto b o _ cap l rfl (by omega) ok hr W (hL W h)).mono fun e w' ⟨g, h1, h2, h3, _⟩ => ⟨g, _, h1, h2, h3⟩
      · exact fun W h => glongest_any b o _ cap l rfl (by omega) ok hr W (hL W h)
      · exact fun W h => rright8 _ _ cap l rfl (by omega) ok W h true hb
  · exact tells_big a _ cap (by omega) w

set_option maxHeartbeats 1600000 in
set_option maxRecDepth 100000 in
theorem blocks_big (a : Option Addr) (n cap : Nat) (hn : 200 < n) (w : World) :
    Calls Try.prog 4 #[.slice a n cap] w fun e w' => e = .returned (.bool true) ∧ Below w.heap.size w w' := by
  have hd : decide (200 < (n : Int)) = true := decide_eq_true (by omega)
  have HB := hid (Below.refl w.heap.size w)
  clear hn
  go_enter Try.func4, Try.ntmps4
  go_wp2_with fail
  refine (awake_any _).mono ?_
  rintro e w1 ⟨rfl, hb⟩
  replace HB := stp HB hb
  clear hb
  go_wp2_with fail
  refine (awake_any _).mono ?_
  rintro e w2 ⟨rfl, hb⟩
  replace HB := stp HB hb
  clear hb
  go_wp2
  go_ret
  exact ⟨rfl, HB.out⟩
set_option maxHeartbeats 1600000 in
set_option maxRecDepth 100000 in
theorem blocks_bad (a : Option Addr) (n cap : Nat) (l : List M.I) (hln : l.length = n) (hn : n ≤ 200) (ok : ∀ i ∈ l, M.okI i) (w : World) (hl : Lies w a l) (hbad : M.rightB l = false) :
    Calls Try.prog 4 #[.slice a n cap] w fun e w' => e = .returned (.bool true) ∧ Below w.heap.size w w' := by
  have hd : decide (200 < (n : Int)) = false := decide_eq_false (by omega)
  have HB := hid (Below.refl w.heap.size w)
  have HBl := hid (fun W (h : Lies W a l) => gblocks_bad a n cap l hln (by omega) ok W h hbad)
  have HRt := hid (fun W (h : Lies W a l) => rright8 a n cap l hln (by omega) ok W h false hbad)
  have HL := hid hl
  clear hl ok hbad hln
  go_enter Try.func4, Try.ntmps4
  go_wp2_with fail
  refine (awake_any _).mono ?_
  rintro e w1 ⟨rfl, hb⟩
  replace HB := stp HB hb
  clear hb
  go_wp2_with fail
  refine (HBl.out _ (HL.out.below HB.out)).mono ?_
  rintro e w2 ⟨rfl, hb⟩
  replace HB := stp HB hb
  clear hb
  go_wp2_with fail
  refine (HRt.out _ (HL.out.below HB.out)).mono ?_
  rintro e w3 ⟨rfl, hb⟩
  replace HB := stp HB hb
  clear hb
  go_wp2
  go_ret
  exact ⟨rfl, HB.out⟩
theorem blocks_law (a : Option Addr) (cap : Nat) (l : List M.I) (ok : ∀ i ∈ l, M.okI i) (w : World) (hl : Lies w a l) :
    Calls Try.prog 4 #[.slice a l.length cap] w fun e w' => e = .returned (.bool true) ∧ Below w.heap.size w w' := by
  by_cases hn : l.length ≤ 200
  · cases hb : M.rightB l with
    | false => exact blocks_bad a _ cap l rfl hn ok w hl hb
    | true =>
      have hr := M.right_of.1 hb
      have h0 := ((M.right_iff l).1 hr).1.1
      obtain ⟨b, o, rfl, hly⟩ := hl.ly (by omega)
      exact blocks_good b o l.length cap l rfl hn ok hr w hly awake_any (fun W h => gblocks_any b o _ cap l rfl (by omega) ok hr W h) (fun W h => rright8 _ _ cap l rfl (by omega) ok W h.lies true hb)
  · exact blocks_big a _ cap (by omega) w

set_option maxHeartbeats 1600000 in
set_option maxRecDepth 100000 in
theorem rises_big (a : Option Addr) (n cap : Nat) (hn : 200 < n) (w : World) :
    Calls Try.prog 7 #[.slice a n cap] w fun e w' => e = .returned (.bool true) ∧ Below w.heap.size w w' := by
  have hd : decide (200 < (n : Int)) = true := decide_eq_true (by omega)
  have HB := hid (Below.refl w.heap.size w)
  clear hn
  go_enter Try.func7, Try.ntmps7
  go_wp2_with fail
  refine (awake_any _).mono ?_
  rintro e w1 ⟨rfl, hb⟩
  replace HB := stp HB hb
  clear hb
  go_wp2_with fail
  refine (awake_any _).mono ?_
  rintro e w2 ⟨rfl, hb⟩
  replace HB := stp HB hb
  clear hb
  go_wp2
  go_ret
  exact ⟨rfl, HB.out⟩
set_option maxHeartbeats 1600000 in
set_option maxRecDepth 100000 in
theorem rises_bad (a : Option Addr) (n cap : Nat) (l : List M.I) (hln : l.length = n) (hn : n ≤ 200) (ok : ∀ i ∈ l, M.okI i) (w : World) (hl : Lies w a l) (hbad : M.rightB l = false) :
    Calls Try.prog 7 #[.slice a n cap] w fun e w' => e = .returned (.bool true) ∧ Below w.heap.size w w' := by
  have hd : decide (200 < (n : Int)) = false := decide_eq_false (by omega)
  have HB := hid (Below.refl w.heap.size w)
  have HRt := hid (fun W (h : Lies W a l) => rright8 a n cap l hln (by omega) ok W h false hbad)
  have HL := hid hl
  clear hl ok hbad hln
  go_enter Try.func7, Try.ntmps7
  go_wp2_with fail
  refine (awake_any _).mono ?_
  rintro e w1 ⟨rfl, hb⟩
  replace HB := stp HB hb
  clear hb
  go_wp2_with fail
  refine (HRt.out _ (HL.out.below HB.out)).mono ?_
  rintro e w2 ⟨rfl, hb⟩
  replace HB := stp HB hb
  clear hb
  go_wp2_with fail
  refine (awake_any _).mono ?_
  rintro e w3 ⟨rfl, hb⟩
  replace HB := stp HB hb
  clear hb
  go_wp2
  go_ret
  exact ⟨rfl, HB.out⟩
theorem rises_law (a : Option Addr) (cap : Nat) (l : List M.I) (ok : ∀ i ∈ l, M.okI i) (w : World) (hl : Lies w a l) :
    Calls Try.prog 7 #[.slice a l.length cap] w fun e w' => e = .returned (.bool true) ∧ Below w.heap.size w w' := by
  by_cases hn : l.length ≤ 200
  · cases hb : M.rightB l with
    | false => exact rises_bad a _ cap l rfl hn ok w hl hb
    | true =>
      have hr := M.right_of.1 hb
      have h0 := ((M.right_iff l).1 hr).1.1
      obtain ⟨b, o, rfl, hly⟩ := hl.ly (by omega)
      exact rises_good b o l.length cap l rfl hn ok hr w hly
  · exact rises_big a _ cap (by omega) w

set_option maxHeartbeats 1600000 in
set_option maxRecDepth 100000 in
theorem ways_big (a : Option Addr) (n cap : Nat) (r : List Int) (hn : 200 < n) (w : World) :
    Calls Try.prog 5 #[.slice a n cap, .agg (RB.enc r)] w fun e w' => e = .returned (.bool true) ∧ Below w.heap.size w w' := by
  have hd : decide (200 < (n : Int)) = true := decide_eq_true (by omega)
  have hX := RB.lcf_eq
  have HB := hid (al w (.cells (RB.enc r) 46))
  clear hn
  go_enter Try.func5, Try.ntmps5
  go_wp2_with fail
  refine (awake_any _).mono ?_
  rintro e w1 ⟨rfl, hb⟩
  replace HB := stp HB hb
  clear hb
  go_wp2_with fail
  refine (awake_any _).mono ?_
  rintro e w2 ⟨rfl, hb⟩
  replace HB := stp HB hb
  clear hb
  go_wp2
  go_ret
  exact ⟨rfl, HB.out⟩
set_option maxHeartbeats 1600000 in
set_option maxRecDepth 100000 in
theorem ways_bad (a : Option Addr) (n cap : Nat) (l : List M.I) (r : List Int) (hln : l.length = n) (hn : n ≤ 200) (ok : ∀ i ∈ l, M.okI i) (w : World) (hl : Lies w a l) (hbad : M.rightB l = false) :
    Calls Try.prog 5 #[.slice a n cap, .agg (RB.enc r)] w fun e w' => e = .returned (.bool true) ∧ Below w.heap.size w w' := by
  have hd : decide (200 < (n : Int)) = false := decide_eq_false (by omega)
  have hX := RB.lcf_eq
  have HB := hid (al w (.cells (RB.enc r) 46))
  have HRt := hid (fun W (h : Lies W a l) => rright8 a n cap l hln (by omega) ok W h false hbad)
  have HL := hid hl
  clear hl ok hbad hln
  go_enter Try.func5, Try.ntmps5
  go_wp2_with fail
  refine (awake_any _).mono ?_
  rintro e w1 ⟨rfl, hb⟩
  replace HB := stp HB hb
  clear hb
  go_wp2_with fail
  refine (HRt.out _ (HL.out.below HB.out)).mono ?_
  rintro e w2 ⟨rfl, hb⟩
  replace HB := stp HB hb
  clear hb
  go_wp2_with fail
  refine (awake_any _).mono ?_
  rintro e w3 ⟨rfl, hb⟩
  replace HB := stp HB hb
  clear hb
  go_wp2
  go_ret
  exact ⟨rfl, HB.out⟩
theorem ways_law (a : Option Addr) (cap : Nat) (l : List M.I) (ok : ∀ i ∈ l, M.okI i) (r : List Int) (hk : R.okR r) (w : World) (hl : Lies w a l) :
    Calls Try.prog 5 #[.slice a l.length cap, .agg (RB.enc r)] w fun e w' => e = .returned (.bool true) ∧ Below w.heap.size w w' := by
  by_cases hn : l.length ≤ 200
  · cases hb : M.rightB l with
    | false => exact ways_bad a _ cap l r rfl hn ok w hl hb
    | true =>
      have hr := M.right_of.1 hb
      have h0 := ((M.right_iff l).1 hr).1.1
      obtain ⟨b, o, rfl, hly⟩ := hl.ly (by omega)
      exact ways_good b o l.length cap l r rfl hn ok hk w hly hr
  · exact ways_big a _ cap r (by omega) w

set_option maxHeartbeats 1600000 in
set_option maxRecDepth 100000 in
theorem long_big (a : Option Addr) (n cap : Nat) (r : List Int) (hn : 200 < n) (w : World) :
    Calls Try.prog 6 #[.slice a n cap, .agg (RB.enc r)] w fun e w' => e = .returned (.bool true) ∧ Below w.heap.size w w' := by
  have hd : decide (200 < (n : Int)) = true := decide_eq_true (by omega)
  have hX := RB.lcf_eq
  have HB := hid (al w (.cells (RB.enc r) 46))
  clear hn
  go_enter Try.func6, Try.ntmps6
  go_wp2_with fail
  refine (awake_any _).mono ?_
  rintro e w1 ⟨rfl, hb⟩
  replace HB := stp HB hb
  clear hb
  go_wp2_with fail
  refine (awake_any _).mono ?_
  rintro e w2 ⟨rfl, hb⟩
  replace HB := stp HB hb
  clear hb
  go_wp2
  go_ret
  exact ⟨rfl, HB.out⟩
set_option maxHeartbeats 1600000 in
set_option maxRecDepth 100000 in
theorem long_bad (a : Option Addr) (n cap : Nat) (l : List M.I) (r : List Int) (hln : l.length = n) (hn : n ≤ 200) (ok : ∀ i ∈ l, M.okI i) (w : World) (hl : Lies w a l) (hbad : M.rightB l = false) :
    Calls Try.prog 6 #[.slice a n cap, .agg (RB.enc r)] w fun e w' => e = .returned (.bool true) ∧ Below w.heap.size w w' := by
  have hd : decide (200 < (n : Int)) = false := decide_eq_false (by omega)
  have hX := RB.lcf_eq
  have HB := hid (al w (.cells (RB.enc r) 46))
  have HRt := hid (fun W (h : Lies W a l) => rright8 a n cap l hln (by omega) ok W h false hbad)
  have HL := hid hl
  clear hl ok hbad hln
  go_enter Try.func6, Try.ntmps6
  go_wp2_with fail
  refine (awake_any _).mono ?_
  rintro e w1 ⟨rfl, hb⟩
  replace HB := stp HB hb
  clear hb
  go_wp2_with fail
  refine (HRt.out _ (HL.out.below HB.out)).mono ?_
  rintro e w2 ⟨rfl, hb⟩
  replace HB := stp HB hb
  clear hb
  go_wp2_with fail
  refine (awake_any _).mono ?_
  rintro e w3 ⟨rfl, hb⟩
  replace HB := stp HB hb
  clear hb
  go_wp2
  go_ret
  exact ⟨rfl, HB.out⟩
theorem long_law (a : Option Addr) (cap : Nat) (l : List M.I) (ok : ∀ i ∈ l, M.okI i) (r : List Int) (hk : R.okR r) (w : World) (hl : Lies w a l) :
    Calls Try.prog 6 #[.slice a l.length cap, .agg (RB.enc r)] w fun e w' => e = .returned (.bool true) ∧ Below w.heap.size w w' := by
  by_cases hn : l.length ≤ 200
  · cases hb : M.rightB l with
    | false => exact long_bad a _ cap l r rfl hn ok w hl hb
    | true =>
      have hr := M.right_of.1 hb
      have h0 := ((M.right_iff l).1 hr).1.1
      obtain ⟨b, o, rfl, hly⟩ := hl.ly (by omega)
      exact long_good b o l.length cap l r rfl hn ok hk w hly hr awake_any (fun W h => rright8 _ _ cap l rfl (by omega) ok W h.lies true hb) (fun W h => glongest_any b o _ cap l rfl (by omega) ok hr W h) (fun W h => (gReached b o _ cap l rfl (by omega) ok hr W h).mono fun e w' ⟨g, h1, h2, h3, _⟩ => ⟨g, _, h1, h2, h3⟩)
  · exact long_big a _ cap r (by omega) w
end Go.Proofs.Ythfneidbaiebhaa.B
