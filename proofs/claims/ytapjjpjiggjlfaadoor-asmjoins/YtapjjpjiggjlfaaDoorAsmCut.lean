/-
  A text cut at a byte, and a number read, as walks over the Go text.
-/
import Derived.Test.YtapjjpjiggjlfaaDoorAsmLine
import Derived.Lib.CutLaws
import Derived.Lib.ParseUintOr
import Derived.Lib.AtoiErrMem
namespace Go.Proofs.YtapjjpjiggjlfaaDoor.M
def has (x : UInt8) (l : List UInt8) : Bool := decide (x ∈ l)
theorem idx_no {x : UInt8} : ∀ {l : List UInt8}, x ∉ l → Lib.indexByte l x = -1 ∧ bef x l = l
  | [], _ => ⟨rfl, rfl⟩
  | b :: l, h => by
    have h1 : b ≠ x := fun e => h (by simp [e])
    obtain ⟨h2, h3⟩ := idx_no (x := x) (l := l) (fun e => h (by simp [e]))
    unfold bef at h3 ⊢
    refine ⟨?_, ?_⟩
    · unfold Lib.indexByte
      rw [h2]
      simp [h1]
    · rw [List.takeWhile_cons, if_pos (by simpa using h1), h3]
theorem idx_yes {x : UInt8} : ∀ {l : List UInt8}, x ∈ l → Lib.indexByte l x = ((bef x l).length : Int) ∧ (bef x l).length < l.length
  | [], h => by cases h
  | b :: l, h => by
    by_cases h1 : b = x
    · subst h1
      have e : bef b (b :: l) = [] := by simp [bef]
      rw [e]
      exact ⟨by simp [Lib.indexByte], by simp⟩
    · have hm : x ∈ l := by rcases List.mem_cons.1 h with h | h; exact absurd h.symm h1; exact h
      obtain ⟨h2, h3⟩ := idx_yes hm
      have e : bef x (b :: l) = b :: bef x l := by unfold bef; rw [List.takeWhile_cons, if_pos (by simpa using h1)]
      rw [e]
      refine ⟨?_, by simpa using h3⟩
      unfold Lib.indexByte
      rw [h2]
      have : ¬ ((bef x l).length : Int) = -1 := by omega
      simp [h1, this]
end Go.Proofs.YtapjjpjiggjlfaaDoor.M
namespace Go.Proofs.YtapjjpjiggjlfaaDoor.B
open Go.ChangeShapes Go.WideShapes Go.ChangeAt Go.RowKit
open Go.Sort hiding Below
set_option linter.unusedVariables false

theorem bdl (s : ByteArray) : s.size = s.data.toList.length := Lib.size_eq s
theorem below_draws (w : World) (n : Nat) : Below w.heap.size w (w.drewN n) := below_drewN (Below.refl _ _) n

set_option maxHeartbeats 1600000 in
set_option maxRecDepth 100000 in
theorem cutlite_any (s : ByteArray) (x : UInt8) (hs : s.size ≤ 1000000000) (w : World) :
    Calls Tryd.prog 44 #[.string s, .string ⟨#[x]⟩] w fun e w' => ∃ R, e = .returned (.tuple #[.string ⟨(M.bef x s.data.toList).toArray⟩, .string R, .bool (M.has x s.data.toList)]) ∧ Below w.heap.size w w' := by
  by_cases hx : x ∈ s.data.toList
  · obtain ⟨h1, h2⟩ := M.idx_yes hx
    rw [← bdl] at h2
    obtain ⟨i, hi⟩ : ∃ i, i = (M.bef x s.data.toList).length := ⟨_, rfl⟩
    rw [← hi] at h1 h2
    have e1 : (⟨(M.bef x s.data.toList).toArray⟩ : ByteArray) = s.extract 0 i := by
      rw [hi, Lib.extract_eq]
      conv => lhs; rw [M.bef_take]
      simp
    have c1 : (0 : Int) ≤ ↑i := by omega
    have c2 : (↑i : Int) ≤ ↑s.size := by omega
    have c3 : (0 : Int) ≤ ↑i + 1 := by omega
    have c4 : (↑i + 1 : Int) ≤ ↑s.size := by omega
    rw [e1]
    clear hi
    go_enter Tryd.func44, Tryd.ntmps44
    go_wp2_with (go_at_call 53; refine (Tryd.stringslite_Index_one s x _).mono ?_; rintro e w' ⟨rfl, rfl⟩; rw [h1])
    go_quiet (fail)
    go_wp2
    go_ret3
    exact ⟨_, by rw [show M.has x s.data.toList = true from by simp only [M.has, hx, decide_true]]; rfl, below_draws _ _⟩
  · obtain ⟨h1, h2⟩ := M.idx_no hx
    have e1 : (⟨(M.bef x s.data.toList).toArray⟩ : ByteArray) = s := M.bytes_ext (by rw [h2])
    rw [e1]
    go_enter Tryd.func44, Tryd.ntmps44
    go_wp2_with (go_at_call 53; refine (Tryd.stringslite_Index_one s x _).mono ?_; rintro e w' ⟨rfl, rfl⟩; rw [h1])
    go_ret3
    exact ⟨_, by rw [show M.has x s.data.toList = false from by simp only [M.has, hx, decide_false]]; rfl, Below.refl _ _⟩
set_option maxRecDepth 100000 in
theorem cut_any (s : ByteArray) (x : UInt8) (hs : s.size ≤ 1000000000) (w : World) :
    Calls Tryd.prog 27 #[.string s, .string ⟨#[x]⟩] w fun e w' => ∃ R, e = .returned (.tuple #[.string ⟨(M.bef x s.data.toList).toArray⟩, .string R, .bool (M.has x s.data.toList)]) ∧ Below w.heap.size w w' := by
  go_enter Tryd.func27, Tryd.ntmps27
  go_wp2_with (go_at_call 44; refine (cutlite_any s x hs _).mono ?_; rintro e w' ⟨R, rfl, hb⟩)
  go_ret3
  exact ⟨R, rfl, hb⟩

set_option maxHeartbeats 1600000 in
set_option maxRecDepth 100000 in
theorem parsenum_core (B : Nat) (hB : 2 ^ B ≤ 4294967296) (s : ByteArray) (w : World) (hN : Nm w)
    (hok : ∀ (u : Nat) (w : World), Lib.parseUintB B s.data.toList = .ok u → Calls Tryd.prog 55 #[.string s, .int .i64 10, .int .i64 B] w fun e w' => e = .returned (.tuple #[.int .u64 u, .nilIface]) ∧ Below w.heap.size w w')
    (hbad : ∀ w : World, Nm w → (∀ u, Lib.parseUintB B s.data.toList ≠ .ok u) → Calls Tryd.prog 55 #[.string s, .int .i64 10, .int .i64 B] w fun e w' => ∃ (v : Int) (N : Nat), e = .returned (.tuple #[.int .u64 v, .iface 114 (.pointer (some ⟨N, 0, none⟩))]) ∧ 0 ≤ v ∧ v < 4294967296 ∧ Below w.heap.size w w') :
    Calls Tryd.prog 46 #[.string s, .int .i64 B] w fun e w' => e = .returned (.tuple #[.int .u32 (((M.number B s.data.toList).getD 0 : Nat) : Int), .bool (M.number B s.data.toList).isSome]) ∧ Below w.heap.size w w' := by
  by_cases h : ∃ u, Lib.parseUintB B s.data.toList = .ok u
  · obtain ⟨u, hu⟩ := h
    have hlt := M.uintB_lt hu
    have hnum : M.number B s.data.toList = if M.num u = s.data.toList then some u else none := by unfold M.number; rw [hu]
    obtain ⟨T, hT⟩ : ∃ T : ByteArray, T = ⟨(M.num u).toArray⟩ := ⟨_, rfl⟩
    have cP := fun w => hok u w hu
    have cN : ∀ w, Nm w → Calls Tryd.prog 19 #[.int .u32 u] w fun e w' => e = .returned (.string T) ∧ Below w.heap.size w w' := by rw [hT]; exact fun w hw => number_any u (by omega) w hw
    have wu : IntKind.u32.wrap (u : Int) = u := by rw [IntKind.wrap_u32]; omega
    have HN := Lib.hid hN
    have HU := Lib.hid hlt
    by_cases he : M.num u = s.data.toList
    · rw [hnum, if_pos he]
      have ht : (T.toList == s.toList) = true := by rw [ByteArray.toList_eq, ByteArray.toList_eq, hT, ← he]; simp
      clear hok hbad hu hlt hnum hT he hN hB
      go_enter Tryd.func46, Tryd.ntmps46
      go_wp2_with (first
        | (go_at_call 55; refine (cP _).mono ?_; rintro e w1 ⟨rfl, hb1⟩; have hB := Lib.hid hb1; clear hb1)
        | (go_at_call 19; refine (cN _ (HN.out.below hB.out)).mono ?_; rintro e w2 ⟨rfl, hb2⟩; have hB := stp hB hb2; clear hb2))
      go_ret2
      exact ⟨rfl, hB.out⟩
    · rw [hnum, if_neg he]
      have ht : (T.toList == s.toList) = false := by
        rw [ByteArray.toList_eq, ByteArray.toList_eq, hT]
        simpa using he
      clear hok hbad hu hlt hnum hT he hN hB
      go_enter Tryd.func46, Tryd.ntmps46
      go_wp2_with (first
        | (go_at_call 55; refine (cP _).mono ?_; rintro e w1 ⟨rfl, hb1⟩; have hB := Lib.hid hb1; clear hb1)
        | (go_at_call 19; refine (cN _ (HN.out.below hB.out)).mono ?_; rintro e w2 ⟨rfl, hb2⟩; have hB := stp hB hb2; clear hb2))
      go_ret2
      exact ⟨rfl, hB.out⟩
  · have hno : ∀ u, Lib.parseUintB B s.data.toList ≠ .ok u := fun u hu => h ⟨u, hu⟩
    have hnum : M.number B s.data.toList = none := by
      unfold M.number
      split
      · rename_i e; exact absurd e (hno _)
      · rfl
    rw [hnum]
    have cP := hbad w hN hno
    clear hok hbad hnum hN hB h hno
    go_enter Tryd.func46, Tryd.ntmps46
    go_wp2_with (first
      | (go_at_call 55; refine cP.mono ?_; rintro e w1 ⟨v, N, rfl, v0, v1, hb1⟩; have hB := Lib.hid hb1; clear hb1))
    go_ret2
    exact ⟨rfl, hB.out⟩
theorem parsenum32 (s : ByteArray) (hs : s.size ≤ 1000000000) (w : World) (hN : Nm w) :
    Calls Tryd.prog 46 #[.string s, .int .i64 32] w fun e w' => e = .returned (.tuple #[.int .u32 (((M.number 32 s.data.toList).getD 0 : Nat) : Int), .bool (M.number 32 s.data.toList).isSome]) ∧ Below w.heap.size w w' := by
  refine parsenum_core 32 (by decide) s w hN ?_ ?_
  · intro u w hu
    refine (Tryd.strconv_ParseUint_10_at32_ok s (by omega) u hu w).mono ?_
    rintro e w' ⟨rfl, rfl | rfl⟩
    · exact ⟨rfl, Below.refl _ _⟩
    · exact ⟨rfl, Lib.bytesWorld_below _ _ _⟩
  · intro w hN hno
    cases h : Lib.parseUintB 32 s.data.toList with
    | ok u => exact absurd h (hno u)
    | «syntax» =>
      obtain ⟨t, p, hv⟩ := hN.syn
      refine (Tryd.strconv_ParseUint_10_at32_syntax s (by omega) h _ w hv (Or.inr ⟨_, _, rfl⟩)).mono ?_
      rintro e w' ⟨N, rfl, _, _, hb⟩
      exact ⟨_, N, rfl, by decide, by decide, hb⟩
    | range =>
      obtain ⟨t, p, hv⟩ := hN.rng
      refine (Tryd.strconv_ParseUint_10_at32_range s (by omega) h _ w hv (Or.inr ⟨_, _, rfl⟩)).mono ?_
      rintro e w' ⟨N, rfl, _, _, hb⟩
      exact ⟨_, N, rfl, by decide, by decide, hb⟩
theorem parsenum8 (s : ByteArray) (hs : s.size ≤ 1000000000) (w : World) (hN : Nm w) :
    Calls Tryd.prog 46 #[.string s, .int .i64 8] w fun e w' => e = .returned (.tuple #[.int .u32 (((M.number 8 s.data.toList).getD 0 : Nat) : Int), .bool (M.number 8 s.data.toList).isSome]) ∧ Below w.heap.size w w' := by
  refine parsenum_core 8 (by decide) s w hN ?_ ?_
  · intro u w hu
    refine (Tryd.strconv_ParseUint_10_at8_ok s (by omega) u hu w).mono ?_
    rintro e w' ⟨rfl, rfl | rfl⟩
    · exact ⟨rfl, Below.refl _ _⟩
    · exact ⟨rfl, Lib.bytesWorld_below _ _ _⟩
  · intro w hN hno
    cases h : Lib.parseUintB 8 s.data.toList with
    | ok u => exact absurd h (hno u)
    | «syntax» =>
      obtain ⟨t, p, hv⟩ := hN.syn
      refine (Tryd.strconv_ParseUint_10_at8_syntax s (by omega) h _ w hv (Or.inr ⟨_, _, rfl⟩)).mono ?_
      rintro e w' ⟨N, rfl, _, _, hb⟩
      exact ⟨_, N, rfl, by decide, by decide, hb⟩
    | range =>
      obtain ⟨t, p, hv⟩ := hN.rng
      refine (Tryd.strconv_ParseUint_10_at8_range s (by omega) h _ w hv (Or.inr ⟨_, _, rfl⟩)).mono ?_
      rintro e w' ⟨N, rfl, _, _, hb⟩
      exact ⟨_, N, rfl, by decide, by decide, hb⟩
end Go.Proofs.YtapjjpjiggjlfaaDoor.B
