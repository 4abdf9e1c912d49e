/-
  The walks of the statements PruneTells and PruneSame, over what the program's own functions answer.
-/
import Derived.Test.YtahaooghebmhnaaPruRefE
namespace Go.Proofs.Ytahaooghebmhnaa.B
open Go.ChangeShapes Go.WideShapes Go.ChangeAt Go.RowKit
open Go.Sort hiding Below
set_option linter.unusedVariables false

def Aw9 : Prop := ∀ W, Calls Try.prog 8 #[] W fun e w' => e = .returned (.bool true) ∧ Below W.heap.size W w'
/-- what Prune answers of a filter, and of what is none -/
def PrOk : Prop := ∀ (b o n cap : Nat) (L : List M.I), L.length = n → n ≤ 4096 → (∀ i ∈ L, M.okI i) → M.right L → ∀ W, Ly W b o L → Calls Try.prog 9 #[.slice (some ⟨b, o, none⟩) n cap] W fun e w' => ∃ a c, e = .returned (.tuple #[.slice a (M.pruneL L).length c, .int .i64 0]) ∧ Lies w' a (M.pruneL L) ∧ Below W.heap.size W w'
def PrBad : Prop := ∀ (a : Option Addr) (n cap : Nat) (L : List M.I), L.length = n → n ≤ 4096 → (∀ i ∈ L, M.okI i) → M.rightB L = false → ∀ W, Lies W a L → Calls Try.prog 9 #[.slice a n cap] W fun e w' => ∃ a c, e = .returned (.tuple #[.slice a 0 c, .int .i64 1]) ∧ Below W.heap.size W w'
def EnOk : Prop := ∀ (a : Option Addr) (n cap : Nat) (L : List M.I) (i : Int), L.length = n → n ≤ 4096 → (∀ x ∈ L, M.okI x) → (Lit.int .i64 i).wf = true → ∀ W, Lies W a L → Calls Try.prog 12 #[.slice a n cap, .int .i64 i] W fun e w' => e = .returned (.int .i64 (if M.rightB L = true then M.endI L i else i)) ∧ Below W.heap.size W w'
def NdOk : Prop := ∀ (b o n cap : Nat) (L : List M.I), L.length = n → n ≤ 4096 → (∀ i ∈ L, M.okI i) → M.right L → ∀ W, Ly W b o L → Calls Try.prog 10 #[.slice (some ⟨b, o, none⟩) n cap] W fun e w' => ∃ g c, e = .returned (.slice (some ⟨g, 0, none⟩) n c) ∧ Row w' g n (fun j => .bool (M.nd (M.strL L) j)) ∧ Below W.heap.size W w'
def NdBad : Prop := ∀ (a : Option Addr) (n cap : Nat) (L : List M.I), L.length = n → n ≤ 4096 → (∀ i ∈ L, M.okI i) → M.rightB L = false → ∀ W, Lies W a L → Calls Try.prog 10 #[.slice a n cap] W fun e w' => ∃ a c, e = .returned (.slice a 0 c) ∧ Below W.heap.size W w'

set_option maxHeartbeats 1600000 in
set_option maxRecDepth 100000 in
theorem ptells_big (hAw : Aw9) (a : Option Addr) (n cap : Nat) (i : Int) (hn : 400 < n) (w : World) :
    Calls Try.prog 3 #[.slice a n cap, .int .i64 i] w fun e w' => e = .returned (.bool true) ∧ Below w.heap.size w w' := by
  have hd : decide (400 < (n : Int)) = true := decide_eq_true (by omega)
  have HB := hid (Below.refl w.heap.size w)
  have HAw := hid hAw
  clear hn hAw
  go_enter Try.func3, Try.ntmps3
  go_wp2_with fail
  refine (HAw.out _).mono ?_
  rintro e w1 ⟨rfl, hb⟩
  replace HB := stp HB hb
  clear hb
  go_wp2_with fail
  refine (HAw.out _).mono ?_
  rintro e w2 ⟨rfl, hb⟩
  replace HB := stp HB hb
  clear hb
  go_wp2
  go_ret
  exact ⟨rfl, HB.out⟩

set_option maxHeartbeats 3200000 in
set_option maxRecDepth 1000000 in
theorem ptells_bad (hAw : Aw9) (hPr : PrBad) (hEn : EnOk) (hNd : NdBad) (a : Option Addr) (n cap : Nat) (i : Int) (hi : (Lit.int .i64 i).wf = true) (l : List M.I) (hln : l.length = n) (hn : n ≤ 400) (ok : ∀ i ∈ l, M.okI i) (hbad : M.rightB l = false) (w : World) (hl : Lies w a l) :
    Calls Try.prog 3 #[.slice a n cap, .int .i64 i] w fun e w' => e = .returned (.bool true) ∧ Below w.heap.size w w' := by
  have hd : decide (400 < (n : Int)) = false := decide_eq_false (by omega)
  have HB := hid (Below.refl w.heap.size w)
  have HAw := hid hAw
  have HPr := hid (fun a c W (h : Lies W a l) => hPr a n c l hln (by omega) ok hbad W h)
  have HNd := hid (fun W (h : Lies W a l) => hNd a n cap l hln (by omega) ok hbad W h)
  have HRt := hid (fun W (h : Lies W a l) => rright9 a n cap l hln (by omega) ok W h false hbad)
  have HEn := hid (fun W (h : Lies W a l) => hEn a n cap l i hln (by omega) ok hi W h)
  rw [hbad] at HEn
  simp only [Bool.false_eq_true, if_false] at HEn
  have HH := hid (And.intro hln hl)
  clear hAw hPr hNd hEn hbad hln hl ok hi
  go_enter Try.func3, Try.ntmps3
  go_wp2_with fail
  refine (HAw.out _).mono ?_
  rintro e w1 ⟨rfl, hb⟩
  replace HB := stp HB hb
  clear hb
  go_wp2_with (at_builtin; refine wpList_append_row (by rfl) _ _ rfl w1.heap.size 0 n 0 cap (some ⟨w1.heap.size, 0, none⟩) a [] l rfl (Own.new w1) rfl (HH.out.2.below (stp HB (al _ _)).out) HH.out.1 (by omega) (by simp) ?_)
  intro a2 cap2 w2 hown hb
  try simp only [Nat.zero_add, List.nil_append] at hown
  have HO := hid hown.lies
  replace HB := hid (HB.out.trans (((al w1 _).trans hb).mono HB.out.size))
  clear hown hb
  try simp only [Nat.zero_add]
  go_wp2_with fail
  refine (HPr.out _ _ _ HO.out).mono ?_
  rintro e w3 ⟨a3, c3, rfl, hb⟩
  replace HB := stp HB hb
  clear hb HO
  go_wp2_with fail
  refine (HNd.out _ (HH.out.2.below HB.out)).mono ?_
  rintro e w4 ⟨a4, c4, rfl, hb⟩
  replace HB := stp HB hb
  clear hb
  go_wp2_with fail
  refine (HRt.out _ (HH.out.2.below HB.out)).mono ?_
  rintro e w5 ⟨rfl, hb⟩
  replace HB := stp HB hb
  clear hb
  go_wp2_with fail
  refine (HEn.out _ (HH.out.2.below HB.out)).mono ?_
  rintro e w6 ⟨rfl, hb⟩
  replace HB := stp HB hb
  clear hb
  have hii : (i == i) = true := by simp
  go_wp2
  go_ret
  exact ⟨rfl, HB.out⟩

set_option maxHeartbeats 3200000 in
set_option maxRecDepth 1000000 in
theorem ptells_good (hAw : Aw9) (hPr : PrOk) (hEn : EnOk) (hNd : NdOk) (b o n cap : Nat) (i : Int) (hi : (Lit.int .i64 i).wf = true) (l : List M.I) (hln : l.length = n) (hn : n ≤ 400) (ok : ∀ i ∈ l, M.okI i) (hr : M.right l) (w : World) (hl : Ly w b o l) :
    Calls Try.prog 3 #[.slice (some ⟨b, o, none⟩) n cap, .int .i64 i] w fun e w' => e = .returned (.bool true) ∧ Below w.heap.size w w' := by
  have hd : decide (400 < (n : Int)) = false := decide_eq_false (by omega)
  have hB := M.right_of.2 hr
  have h0 : 0 < n := by rw [← hln]; exact ((M.right_iff l).1 hr).1.1
  have HB := hid (Below.refl w.heap.size w)
  have HAw := hid hAw
  have hlenp : (M.pruneL l).length ≤ n := by rw [← hln]; exact (M.prune_spec hr ok).2.2.2.1
  have HPr := hid (fun b o c W (h : Ly W b o l) => hPr b o n c l hln (by omega) ok hr W h)
  have HPR := hid (fun W (h : Ly W b o l) => rprune_any b o n cap l hln (by omega) ok hr W h)
  obtain ⟨m, hm⟩ : ∃ m, (M.pruneL l).length = m := ⟨_, rfl⟩
  rw [hm] at HPr HPR hlenp
  have HSa := hid (fun a1 a2 c1 c2 (W : World) h1 h2 => rsame_len a1 a2 (M.pruneL l) (M.pruneL l) m m c1 c2 W hm hm h1 h2 (by omega) (by omega) true (decide_eq_true rfl))
  have HNd := hid (fun W (h : Ly W b o l) => hNd b o n cap l hln (by omega) ok hr W h)
  have HNR := hid (fun W (h : Ly W b o l) => rneed_any b o n cap l hln (by omega) ok hr W h)
  have HRt := hid (fun W (h : Ly W b o l) => rright9 (some ⟨b, o, none⟩) n cap l hln (by omega) ok W h.lies true hB)
  have HEn := hid (fun W (h : Ly W b o l) => hEn (some ⟨b, o, none⟩) n cap l i hln (by omega) ok hi W h.lies)
  have HER := hid (fun W (h : Ly W b o l) => rendI b o n cap l hln (by omega) ok hr i W h)
  rw [hB] at HEn
  simp only [if_true] at HEn
  obtain ⟨E, hE⟩ : ∃ E, M.endI l i = E := ⟨_, rfl⟩
  rw [hE] at HEn HER
  have HH := hid (And.intro hln hl)
  clear hAw hPr hNd hEn hB hln hl ok hi hr hm hE
  go_enter Try.func3, Try.ntmps3
  go_wp2_with fail
  refine (HAw.out _).mono ?_
  rintro e w1 ⟨rfl, hb⟩
  replace HB := stp HB hb
  clear hb
  go_wp2_with (at_builtin; refine wpList_append_row (by rfl) _ _ rfl w1.heap.size 0 n 0 cap (some ⟨w1.heap.size, 0, none⟩) (some ⟨b, o, none⟩) [] l rfl (Own.new w1) rfl (HH.out.2.below (stp HB (al _ _)).out).lies HH.out.1 (by omega) (by simp) ?_)
  intro a2 cap2 w2 hown hb
  try simp only [Nat.zero_add, List.nil_append] at hown
  obtain ⟨g2, cg, hv⟩ := own_form hown.own h0
  injection hv with hv1 hv2 hv3
  subst hv1
  have HO := hid (show Ly w2 g2 0 l from by
    obtain ⟨b', o', e, h⟩ := hown.lies.ly (by rw [HH.out.1]; exact h0)
    injection e with e
    injection e with e1 e2
    subst e1 e2
    exact h)
  replace HB := hid (HB.out.trans (((al w1 _).trans hb).mono HB.out.size))
  clear hown hb hv3
  try simp only [Nat.zero_add]
  go_wp2_with fail
  refine (HPr.out _ _ _ _ HO.out).mono ?_
  rintro e w3 ⟨a3, c3, rfl, hx3, hb⟩
  replace HB := stp HB hb
  have HX3 := hid hx3
  clear hb HO hx3
  go_wp2_with fail
  refine (HNd.out _ (HH.out.2.below HB.out)).mono ?_
  rintro e w4 ⟨g4, c4, rfl, hx4, hb⟩
  replace HB := stp HB hb
  replace HX3 := hid (HX3.out.below hb)
  have HX4 := hid hx4
  clear hb hx4
  go_wp2_with fail
  refine (HRt.out _ (HH.out.2.below HB.out)).mono ?_
  rintro e w5 ⟨rfl, hb⟩
  replace HB := stp HB hb
  replace HX3 := hid (HX3.out.below hb)
  replace HX4 := hid (HX4.out.below hb)
  clear hb
  go_wp2_with fail
  refine (HNR.out _ (HH.out.2.below HB.out)).mono ?_
  rintro e w6 ⟨g6, rfl, hx6, hb, _⟩
  replace HB := stp HB hb
  replace HX3 := hid (HX3.out.below hb)
  replace HX4 := hid (HX4.out.below hb)
  have HX6 := hid hx6
  clear hb hx6
  go_wp2_with fail
  refine (HPR.out _ (HH.out.2.below HB.out)).mono ?_
  rintro e w7 ⟨a7, c7, rfl, hx7, hb⟩
  replace HB := stp HB hb
  replace HX3 := hid (HX3.out.below hb)
  replace HX4 := hid (HX4.out.below hb)
  replace HX6 := hid (HX6.out.below hb)
  have HX7 := hid hx7
  clear hb hx7
  go_wp2_with fail
  refine (HSa.out _ _ _ _ _ HX3.out HX7.out).mono ?_
  rintro e w8 ⟨rfl, q, rfl⟩
  have HB8 := hid (bdrew HB.out q)
  have HX48 := hid (HX4.out.drewN q)
  have HX68 := hid (HX6.out.drewN q)
  obtain ⟨W8, hW8⟩ : ∃ W8, w7.drewN q = W8 := ⟨_, rfl⟩
  rw [hW8] at HB8 HX48 HX68 ⊢
  clear hW8 HB HX3 HX4 HX6 HX7
  have hnn : ((n : Int) != (n : Int)) = false := by simp
  go_wp2_with fail
  refine (HEn.out _ (HH.out.2.below HB8.out)).mono ?_
  rintro e w9 ⟨rfl, hb⟩
  replace HB8 := stp HB8 hb
  replace HX48 := hid (HX48.out.below hb)
  replace HX68 := hid (HX68.out.below hb)
  clear hb
  go_wp2_with fail
  refine (HER.out _ (HH.out.2.below HB8.out)).mono ?_
  rintro e w10 ⟨rfl, hb⟩
  replace HB8 := stp HB8 hb
  replace HX48 := hid (HX48.out.below hb)
  replace HX68 := hid (HX68.out.below hb)
  clear hb
  have hEE : (E != E) = false := by simp
  go_wp2
  go_loopw [78] (fun i wr => ∃ k q : Nat, k ≤ n ∧ i = .int .i64 k ∧ wr = w10.drewN q) (fun i _ => n - (intOf i).toNat)
  case atStart => exact ⟨0, 0, Nat.zero_le _, rfl, rfl⟩
  case round =>
    obtain ⟨p, q, hp, rfl, rfl⟩ := hrel
    by_cases hlt : p < n
    · have i1 : (p : Int) < (n : Int) := by omega
      have e1 := HX48.out.cell p hlt
      have e2 := HX68.out.cell p hlt
      obtain ⟨x, hx⟩ : ∃ x, M.nd (M.strL l) p = x := ⟨_, rfl⟩
      rw [hx] at e1 e2
      have hxx : (x != x) = false := by simp
      clear hx
      go_wp2
      go_quiet (fail)
      go_wp2
      go_roundw
      case rel => exact ⟨p + 1, _, by omega, by go_num, rfl⟩
      case measure => simp [intOf]; omega
    · obtain rfl : p = n := by omega
      go_wp2
      go_ret
      exact ⟨rfl, bdrew HB8.out q⟩
theorem ptells_law (hAw : Aw9) (hP : PrOk) (hP' : PrBad) (hE : EnOk) (hN : NdOk) (hN' : NdBad) (a : Option Addr) (cap : Nat) (l : List M.I) (ok : ∀ i ∈ l, M.okI i) (i : Int) (hi : (Lit.int .i64 i).wf = true) (w : World) (hl : Lies w a l) :
    Calls Try.prog 3 #[.slice a l.length cap, .int .i64 i] w fun e w' => e = .returned (.bool true) ∧ Below w.heap.size w w' := by
  by_cases hn : l.length ≤ 400
  · cases hb : M.rightB l with
    | false => exact ptells_bad hAw hP' hE hN' a _ cap i hi l rfl hn ok hb w hl
    | true =>
      have hr := M.right_of.1 hb
      have h0 := ((M.right_iff l).1 hr).1.1
      obtain ⟨b, o, rfl, hly⟩ := hl.ly (by omega)
      exact ptells_good hAw hP hE hN b o l.length cap i hi l rfl hn ok hr w hly
  · exact ptells_big hAw a _ cap i (by omega) w
end Go.Proofs.Ytahaooghebmhnaa.B
