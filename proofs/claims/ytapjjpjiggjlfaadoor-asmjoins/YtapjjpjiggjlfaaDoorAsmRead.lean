/-
  The program of a text, as a walk over the Go text.
-/
import Derived.Test.YtapjjpjiggjlfaaDoorAsmPars3
import Derived.Test.YtapjjpjiggjlfaaDoorInsJoin
namespace Go.Proofs.YtapjjpjiggjlfaaDoor.M
theorem has_split {x : UInt8} {l : List UInt8} (h : has x l = true) : l = bef x l ++ x :: l.drop ((bef x l).length + 1) := by
  have hm : x ∈ l := by simpa [has] using h
  have h1 := bef_aft x l
  rcases aft_head x l with h2 | ⟨r, h2⟩
  · rw [h2, List.append_nil] at h1
    rw [← h1] at hm
    exact absurd rfl (bef_no x l x hm)
  · have h3 : l.drop ((bef x l).length + 1) = r := by
      rw [← List.drop_drop, ← aft_drop, h2]; rfl
    rw [h3, ← h2, h1]
theorem has_not {x : UInt8} {l : List UInt8} (h : has x l = false) : ∀ b ∈ l, b ≠ x := by
  rintro b hb rfl
  simp [has] at h
  exact h hb
/-- a line is read -/
theorem rows_next {l : List UInt8} {p : Nat} (acc : List I) (hx : rows [] 0 l = moreL acc (rows [] p (l.drop p))) (hh : has 10 (l.drop p) = true) {i : I} (hp : parse (bef 10 (l.drop p)) = some i) :
    rows [] 0 l = moreL (acc ++ [i]) (rows [] (p + ((bef 10 (l.drop p)).length + 1)) (l.drop (p + ((bef 10 (l.drop p)).length + 1)))) := by
  have h1 := has_split hh
  have h2 := rows_line (bef_no 10 (l.drop p)) p ((l.drop p).drop ((bef 10 (l.drop p)).length + 1))
  rw [← h1, hp] at h2
  simp only at h2
  rw [hx, h2, List.drop_drop, Nat.add_assoc]
  cases rows [] (p + ((bef 10 (l.drop p)).length + 1)) (l.drop (p + ((bef 10 (l.drop p)).length + 1))) with
  | inl q => rfl
  | inr m => simp [moreL, more]
theorem rows_none {l : List UInt8} {p : Nat} (acc : List I) (hx : rows [] 0 l = moreL acc (rows [] p (l.drop p))) (hh : has 10 (l.drop p) = true) (hp : parse (bef 10 (l.drop p)) = none) : rows [] 0 l = .inl p := by
  have h1 := has_split hh
  have h2 := rows_line (bef_no 10 (l.drop p)) p ((l.drop p).drop ((bef 10 (l.drop p)).length + 1))
  rw [← h1, hp] at h2
  simp only at h2
  rw [hx, h2]; rfl
theorem rows_open {l : List UInt8} {p : Nat} (acc : List I) (hx : rows [] 0 l = moreL acc (rows [] p (l.drop p))) (hh : has 10 (l.drop p) = false) (hp : p < l.length) : rows [] 0 l = .inl p := by
  rw [hx, rows_end (has_not hh), if_neg]
  · rfl
  · intro e
    have := congrArg List.length e
    simp at this; omega
theorem rows_done {l : List UInt8} (acc : List I) (hx : rows [] 0 l = moreL acc (rows [] l.length (l.drop l.length))) : rows [] 0 l = .inr acc := by
  rw [hx, List.drop_length]; simp [rows, moreL]
theorem has_lt {x : UInt8} {l : List UInt8} (h : has x l = true) : (bef x l).length + 1 ≤ l.length := by
  have := congrArg List.length (has_split h)
  simp at this; omega
end Go.Proofs.YtapjjpjiggjlfaaDoor.M
namespace Go.Proofs.YtapjjpjiggjlfaaDoor.B
open Go.ChangeShapes Go.WideShapes Go.ChangeAt Go.RowKit
open Go.Sort hiding Below
set_option linter.unusedVariables false

def ReadOut (X : Nat ⊕ List M.I) (w : World) (e : Ending) (w' : World) : Prop := match X with
  | .inl q => e = .returned (.tuple #[.slice none 0 0, .int .i64 q, .int .i64 3]) ∧ Below w.heap.size w w'
  | .inr m => ∃ g cap, e = .returned (.tuple #[.slice (some ⟨g, 0, none⟩) m.length cap, .int .i64 0, .int .i64 0]) ∧ Lies w' (some ⟨g, 0, none⟩) m ∧ Below w.heap.size w w'

theorem aread_empty (w : World) : Calls Tryd.prog 14 #[.string ⟨#[]⟩] w fun e w' => e = .returned (.tuple #[.slice none 0 0, .int .i64 0, .int .i64 4]) ∧ Below w.heap.size w w' := by
  go_enter Tryd.func14, Tryd.ntmps14
  go_wp2
  go_ret3
  exact ⟨rfl, Below.refl _ _⟩

set_option maxHeartbeats 1600000 in
set_option maxRecDepth 1000000 in
theorem aread_rows (s : ByteArray) (h0 : s.data.toList ≠ []) (hs : s.size ≤ 100000) (hc : s.data.toList.count 10 ≤ 4096) (w : World) (hN : Nm w) :
    Calls Tryd.prog 14 #[.string s] w fun e w' => ReadOut (M.rows [] 0 s.data.toList) w e w' := by
  obtain ⟨i0, hi, hz0, hz1, hz2⟩ := info_parts info39
  obtain ⟨l, hl⟩ : ∃ l, l = s.data.toList := ⟨_, rfl⟩
  have hln : s.size = l.length := by rw [bdl, hl]
  obtain ⟨n, hn⟩ : ∃ n, n = Lib.countByte s.data.toList 10 := ⟨_, rfl⟩
  have hnn : n ≤ 4096 := by rw [hn]; exact hc
  have cC := fun w => Tryd.strings_Count_one s 10 w
  rw [← hn] at cC
  obtain ⟨cs, hcs, hmk⟩ := make4 n (by omega)
  have hse : (s.toList == []) = false := by
    rw [ByteArray.toList_eq, ← hl]
    rw [← hl] at h0
    simpa using h0
  have i5 : ¬ (4096 : Int) < n := by omega
  have hown0 : (w.alloc (.cells cs 25)).ownsRow w.heap.size 25 4 (.slice (some ⟨w.heap.size, 0, none⟩) 0 n) 0 [] :=
    World.ownsRow_made (base := w.heap.size) (e := 25) (size := 4) w cs n (Nat.le_refl _) (by unfold maxLen; omega) (by omega)
  have HW := Lib.hid hown0
  have HN := Lib.hid hN
  rw [← hl]
  obtain ⟨X, hX⟩ : ∃ X, X = M.rows [] 0 l := ⟨_, rfl⟩
  rw [← hX]
  have HX := Lib.hid hX
  have HL := Lib.hid hl
  rw [← hl] at h0
  have H0 := Lib.hid h0
  clear hown0 hN hX hn hc h0 hl
  go_enter Tryd.func14, Tryd.ntmps14
  go_wp2_with (go_at_call 34; refine (cC _).mono ?_; rintro e w1 ⟨rfl, rfl⟩)
  go_loopw [6, 7] (fun v i wr => ∃ (p : Nat) (acc : List M.I), p ≤ l.length ∧ acc.length ≤ p ∧ i = .int .i64 p ∧ Hid (wr.ownsRow w1.heap.size 25 4 v acc.length (i4s acc) ∧ Below w1.heap.size w1 wr ∧ M.rows [] 0 l = M.moreL acc (M.rows [] p (l.drop p))))
    (fun _ i _ => l.length - (intOf i).toNat)
  case atStart => exact ⟨0, [], Nat.zero_le _, Nat.zero_le _, rfl, HW.out, (Below.refl _ _).alloc (Nat.le_refl _) _, by cases h : M.rows [] 0 l <;> simp [M.moreL, h]⟩
  case round =>
    obtain ⟨p, acc, hp, hap, rfl, HR⟩ := hrel
    clear cC hmk hcs HW hse i5
    have hNx := Lib.hid (HN.out.below HR.out.2.1)
    by_cases hlt : p < l.length
    · obtain ⟨D, hD⟩ : ∃ D : ByteArray, D = s.extract p s.size := ⟨_, rfl⟩
      have hDl : D.data.toList = l.drop p := by
        rw [hD, Lib.extract_eq, ← HL.out]
        simp [hln, List.take_of_length_le]
      have hDs : D.size ≤ 100000 := by rw [bdl, hDl]; simp; omega
      have hDe : s.extract p s.size = D := hD.symm
      clear hD
      have hsl : ∀ W : World, (Instr.slice 9 (.string s) (some (.int .i64 (p : Int))) none none).run Tryd.prog W = .ok (.string D) W := fun W => by
        rw [run_slice_string_from_if W 9 s .i64 (p : Int) Tryd.underlying9, if_pos (by omega)]
        simp [hDe]
      obtain ⟨N, hNN⟩ : ∃ N : ByteArray, N = ⟨(M.bef 10 (l.drop p)).toArray⟩ := ⟨_, rfl⟩
      have hNl : N.data.toList = M.bef 10 (l.drop p) := by rw [hNN]
      have hNsz : N.size = (M.bef 10 (l.drop p)).length := by rw [bdl, hNl]
      have hNs : N.size ≤ 100000 := by
        have := M.bef_len 10 (l.drop p)
        rw [← hNsz] at this
        simp at this; omega
      have cX : ∀ w, Calls Tryd.prog 27 #[.string D, .string ⟨#[10]⟩] w fun e w' => ∃ R, e = .returned (.tuple #[.string N, .string R, .bool (M.has 10 (l.drop p))]) ∧ Below w.heap.size w w' := by
        intro w
        have := cut_any D 10 (by omega) w
        rw [hDl, ← hNN] at this
        exact this
      have cP := fun w hw => parse_any N (by omega) w hw
      rw [hNl] at cP
      have i1 : (p : Int) < (s.size : Int) := by omega
      cases hh : M.has 10 (l.drop p) with
      | false =>
        have hx := M.rows_open acc HR.out.2.2 hh hlt
        rw [hh] at cX
        have HXX := Lib.hid (HX.out.trans hx)
        have H1 := Lib.hid hln; have H2 := Lib.hid hNsz; have H3 := Lib.hid hlt; have H4 := Lib.hid hp
        clear hx hDl hNl hNN hln hNsz hlt hp hap hh
        go_wp2_with (first
          | (go_at_call 27; refine (cX _).mono ?_; rintro e w2 ⟨R, rfl, hb⟩; have hB := Lib.hid (HR.out.2.1.trans (hb.mono HR.out.2.1.size)); have hNx := Lib.hid (hNx.out.below hb); clear hb)
          | (go_at_call 12; refine (cP _ hNx.out).mono ?_; rintro e w3 ⟨rfl, hb⟩; have hB := stp hB hb; clear hb))
        go_ret3
        rw [HXX.out]
        exact ⟨rfl, hB.out.alloc hB.out.size _⟩
      | true =>
        rw [hh] at cX
        have hle := M.has_lt hh
        rw [← hNsz] at hle
        have hdl : (l.drop p).length = l.length - p := by simp
        cases hpp : M.parse (M.bef 10 (l.drop p)) with
        | none =>
          have hx := M.rows_none acc HR.out.2.2 hh hpp
          rw [hpp] at cP
          have HXX := Lib.hid (HX.out.trans hx)
          have cP : ∀ w, Nm w → Calls Tryd.prog 12 #[.string N] w fun e w' => e = .returned (.tuple #[.agg #[.int .u16 0, .int .u8 0, .int .u8 0, .int .u32 0], .int .i64 3]) ∧ Below w.heap.size w w' := cP
          have H1 := Lib.hid hln; have H2 := Lib.hid hNsz; have H3 := Lib.hid hlt; have H4 := Lib.hid hp; have H5 := Lib.hid hap; have H6 := Lib.hid hle; have H7 := Lib.hid hdl
          clear hx hDl hNl hNN hln hNsz hlt hp hap hle hdl hh hpp
          go_wp2_with (first
            | (go_at_call 27; refine (cX _).mono ?_; rintro e w2 ⟨R, rfl, hb⟩; have hB := Lib.hid (HR.out.2.1.trans (hb.mono HR.out.2.1.size)); have hNx := Lib.hid (hNx.out.below hb); clear hb)
            | (go_at_call 12; refine (cP _ hNx.out).mono ?_; rintro e w3 ⟨rfl, hb⟩; have hB := stp hB hb; clear hb))
          go_ret3
          rw [HXX.out]
          exact ⟨rfl, hB.out.alloc hB.out.size _⟩
        | some i =>
          obtain ⟨c, t, f, k⟩ := i
          have hx := M.rows_next acc HR.out.2.2 hh hpp
          rw [← hNsz] at hx
          rw [hpp] at cP
          have cP : ∀ w, Nm w → Calls Tryd.prog 12 #[.string N] w fun e w' => e = .returned (.tuple #[.agg #[.int .u16 c, .int .u8 t, .int .u8 f, .int .u32 k], .int .i64 0]) ∧ Below w.heap.size w w' := cP
          have HXX := Lib.hid hx
          have HI : Hid (i4s (acc ++ [(c, t, f, k)]) = i4s acc ++ [.int .u16 c, .int .u8 t, .int .u8 f, .int .u32 k]) := i4s_snoc acc (c, t, f, k)
          have wn : IntKind.i64.wrap ((N.size : Int) + 1) = (N.size : Int) + 1 := by rw [IntKind.wrap_i64]; omega
          have H1 := Lib.hid hln; have H2 := Lib.hid hNsz; have H3 := Lib.hid hlt; have H4 := Lib.hid hp; have H5 := Lib.hid hap; have H6 := Lib.hid hle; have H7 := Lib.hid hdl
          clear hx hDl hNl hNN hln hNsz hlt hp hap hle hdl hh hpp
          go_wp2_with (first
            | (go_at_call 27; refine (cX _).mono ?_; rintro e w2 ⟨R, rfl, hb⟩; have hB := Lib.hid (And.intro (HR.out.2.1.trans (hb.mono HR.out.2.1.size)) (own_below HR.out.1 hb)); have hNx := Lib.hid (hNx.out.below hb); clear hb)
            | (go_at_call 12; refine (cP _ hNx.out).mono ?_; rintro e w3 ⟨rfl, hb⟩; have hB := Lib.hid (And.intro (hB.out.1.trans (hb.mono hB.out.1.size)) (own_below hB.out.2 hb)); clear hb; have hsz : w1.heap.size ≤ w3.heap.size := hB.out.1.size)
            | (at_builtin; refine wpList_append_lies _ rfl _ _ 37 rfl w1.heap.size 25 i0 (.agg #[.int .u16 0, .int .u8 0, .int .u8 0, .int .u32 0]) 4 8 Tryd.underlying37 hi hz0 hz1 hz2 rfl (by decide) _ acc.length _ rfl ((hB.out.2.alloc _).alloc _) ⟨w3.heap.size + 1, 0, none⟩ 1 1 [.int .u16 c, .int .u8 t, .int .u8 f, .int .u32 k] rfl rfl ?c1 ?c2 (by decide) ?c3 ?c4 ?c5 (w3.heap.size + 2) ?c6 ?_))
          case c1 => exact news2 w3 _ _ rfl
          case c2 => intro u hu; simp at hu; rcases hu with rfl | rfl | rfl | rfl <;> rfl
          case c3 => have := H5.out; have := H4.out; have := H1.out; unfold maxLen; omega
          case c4 => have := H5.out; have := H4.out; have := H1.out; omega
          case c5 => simp; omega
          case c6 => simp
          intro g cap w4 hown4 hgrow hat hlt4
          rw [← HI.out] at hown4
          have HH : Hid (w4.ownsRow w1.heap.size 25 4 (.slice (some ⟨g, 0, none⟩) (acc.length + 1) cap) (acc ++ [(c, t, f, k)]).length (i4s (acc ++ [(c, t, f, k)])) ∧ Below w1.heap.size w1 w4) :=
            ⟨by rw [List.length_append]; exact hown4, hB.out.1.trans (below_own2 hB.out.2 hsz hgrow)⟩
          clear hown4 hgrow hat hB HI
          go_wp2
          go_roundw
          case rel =>
            have h1 := H1.out; have h5 := H5.out; have h6 := H6.out; have h7 := H7.out
            exact ⟨p + (N.size + 1), acc ++ [(c, t, f, k)], by omega, by simp; omega, by go_num, HH.out.1, HH.out.2, HXX.out⟩
          case measure =>
            have h1 := H1.out; have h3 := H3.out; have h6 := H6.out; have h7 := H7.out
            simp [intOf]; omega
    · obtain rfl : p = l.length := by omega
      have hx := M.rows_done acc HR.out.2.2
      have HXX := Lib.hid (HX.out.trans hx)
      have i1 : ¬ (l.length : Int) < (s.size : Int) := by omega
      have hne : 0 < acc.length := by
        rcases Nat.eq_zero_or_pos acc.length with h | h
        · have e : acc = [] := List.eq_nil_of_length_eq_zero h
          have := (M.rows_ok l [] 0 acc hx).1
          rw [e] at this
          exact absurd this.symm (by simpa [M.txt] using H0.out)
        · exact h
      obtain ⟨g, cap, hv⟩ := own_form HR.out.1 hne
      have HL2 := Lib.hid (And.intro (show Lies wr (some ⟨g, 0, none⟩) acc from lies_of_own (by rw [← hv]; exact HR.out.1) rfl) HR.out.2.1)
      rw [hv]
      clear hx hv
      go_wp2
      go_ret3
      rw [HXX.out]
      exact ⟨g, cap, rfl, HL2.out.1, HL2.out.2⟩
end Go.Proofs.YtapjjpjiggjlfaaDoor.B
