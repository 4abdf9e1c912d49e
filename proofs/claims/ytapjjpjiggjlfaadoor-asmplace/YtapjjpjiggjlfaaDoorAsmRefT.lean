/-
  A program's text, and the program of a text, in the document's own words, as walks over the Go text.
-/
import Derived.Test.YtapjjpjiggjlfaaDoorAsmRefR
import Derived.Test.YtapjjpjiggjlfaaDoorAsmPrint
import Derived.Test.YtapjjpjiggjlfaaDoorAsmRead
namespace Go.Proofs.YtapjjpjiggjlfaaDoor.M
def Rd (l : List UInt8) (acc : List I) (p k : Nat) : Prop := rows [] 0 l = moreL acc (rows ((l.take k).drop p) p (l.drop k))
theorem Rd.start (l : List UInt8) : Rd l [] 0 0 := by
  unfold Rd
  simp only [List.take_zero, List.drop_zero]
  cases rows [] 0 l <;> rfl
theorem Rd.on {l : List UInt8} {acc : List I} {p k : Nat} (h : Rd l acc p k) (hk : k < l.length) (hp : p ≤ k) (hb : l[k] ≠ 10) : Rd l acc p (k + 1) := by
  unfold Rd at *
  rw [h, List.drop_eq_getElem_cons hk, rows, if_neg hb, List.take_succ_eq_append_getElem hk, List.drop_append_of_le_length (by rw [List.length_take]; omega)]
theorem Rd.cut {l : List UInt8} {acc : List I} {p k : Nat} (h : Rd l acc p k) (hk : k < l.length) (hp : p ≤ k) (hb : l[k] = 10) {i : I} (hi : parse ((l.take k).drop p) = some i) : Rd l (acc ++ [i]) (k + 1) (k + 1) := by
  unfold Rd at *
  have e1 : (l.take (k + 1)).drop (k + 1) = [] := by simp
  have e2 : p + ((l.take k).drop p).length + 1 = k + 1 := by simp; omega
  rw [h, List.drop_eq_getElem_cons hk, rows, if_pos hb, hi, e1, e2]
  simp only
  cases rows [] (k + 1) (l.drop (k + 1)) <;> simp [moreL]
theorem Rd.none {l : List UInt8} {acc : List I} {p k : Nat} (h : Rd l acc p k) (hk : k < l.length) (hb : l[k] = 10) (hi : parse ((l.take k).drop p) = Option.none) : rows [] 0 l = .inl p := by
  unfold Rd at h
  rw [h, List.drop_eq_getElem_cons hk, rows, if_pos hb, hi]
  rfl
theorem Rd.open {l : List UInt8} {acc : List I} {p : Nat} (h : Rd l acc p l.length) (hp : p < l.length) : rows [] 0 l = .inl p := by
  unfold Rd at h
  rw [h, List.take_length, List.drop_length, rows, if_neg]
  · rfl
  · intro e
    have := congrArg List.length e
    simp at this; omega
theorem Rd.done {l : List UInt8} {acc : List I} (h : Rd l acc l.length l.length) : rows [] 0 l = .inr acc := by
  unfold Rd at h
  rw [h, List.take_length, List.drop_length, rows, if_pos rfl]
  simp [moreL]
theorem count_take {l : List UInt8} {k : Nat} (h : k < l.length) : (l.take (k + 1)).count 10 = (l.take k).count 10 + if l[k] = 10 then 1 else 0 := by
  rw [List.take_succ_eq_append_getElem h, List.count_append, List.count_singleton]
  simp
end Go.Proofs.YtapjjpjiggjlfaaDoor.M
namespace Go.Proofs.YtapjjpjiggjlfaaDoor.B
open Go.ChangeShapes Go.WideShapes Go.ChangeAt Go.RowKit
open Go.Sort hiding Below
set_option linter.unusedVariables false

theorem tprint_none (a : Option Addr) (cap : Nat) (w : World) :
    Calls Tryd.prog 18 #[.slice a 0 cap] w fun e w' => e = .returned (.tuple #[.string { data := #[] }, .int .i64 4]) ∧ Below w.heap.size w w' := by
  go_enter Tryd.func18, Tryd.ntmps18
  go_wp2
  go_ret2
  exact ⟨rfl, Below.refl _ _⟩

set_option maxHeartbeats 1600000 in
set_option maxRecDepth 1000000 in
theorem tprint_some (a : Option Addr) (l : List M.I) (ca : Nat) (w : World) (hl : Lies w a l) (ok : ∀ i ∈ l, M.okI i) (h0 : 0 < l.length) (h1 : l.length ≤ 4096) :
    Calls Tryd.prog 18 #[.slice a l.length ca] w fun e w' => e = .returned (.tuple #[.string ⟨(M.print l).1.toArray⟩, .int .i64 (M.print l).2]) ∧ Below w.heap.size w w' := by
  rcases hl with hl | ⟨b, o, rfl, hb, hl⟩
  · rw [hl] at h0; simp at h0
  have HO : Hid (∀ i ∈ l, M.okI i) := ok
  have HL : Hid (∀ (j : Nat) (h : j < l.length), LiesAt w b o j l[j]) := hl
  obtain ⟨X, hX⟩ : ∃ X, X = M.print l := ⟨_, rfl⟩
  rw [← hX]
  have HX := Lib.hid hX
  have e0 : ((l.length : Int) == 0) = false := beq_eq_false_iff_ne.2 (by omega)
  have e1 : ¬ (4096 : Int) < l.length := by omega
  clear ok hl hX
  go_enter Tryd.func18, Tryd.ntmps18
  go_wp2
  go_loopw [4, 5] (fun v i wr => ∃ (k : Nat) (R : ByteArray), k ≤ l.length ∧ i = .int .i64 k ∧ v = .string R ∧ Hid (R = ⟨(M.txt (l.take k)).toArray⟩ ∧ Below w.heap.size w wr ∧ M.bad (l.take k) = 0))
    (fun _ i _ => l.length - (intOf i).toNat)
  case atStart => exact ⟨0, ⟨#[]⟩, Nat.zero_le _, rfl, rfl, rfl, Below.refl _ _, rfl⟩
  case round =>
    obtain ⟨k, R, hk, rfl, rfl, HR⟩ := hrel
    by_cases hlt : k < l.length
    · obtain ⟨p0, p1, p2, p3⟩ := HL.out k hlt
      have hok := HO.out l[k] (List.getElem_mem hlt)
      have hnx := HR.out.2.1
      have q0 := (hnx.cell (p := ⟨b, o + k * 4, none⟩) hb).trans p0
      have q1 := (hnx.cell (p := ⟨b, o + k * 4 + 1, none⟩) hb).trans p1
      have q2 := (hnx.cell (p := ⟨b, o + k * 4 + 2, none⟩) hb).trans p2
      have q3 := (hnx.cell (p := ⟨b, o + k * 4 + 3, none⟩) hb).trans p3
      have i1 : (k : Int) < (l.length : Int) := by omega
      have HS := Lib.hid (M.txt_snoc hlt)
      have HB := Lib.hid (fun h => M.bad_snoc hlt HR.out.2.2 h)
      have HA := Lib.hid (fun h => M.bad_at hlt HR.out.2.2 h)
      have hlen := M.txt_len (l.take k)
      have hlen2 := M.line_len l[k]
      obtain ⟨S, hS⟩ : ∃ S : ByteArray, S = ⟨(M.line l[k]).1.toArray⟩ := ⟨_, rfl⟩
      obtain ⟨er, her⟩ : ∃ er, er = (M.line l[k]).2 := ⟨_, rfl⟩
      have hSs : S.size ≤ 69 := by rw [hS, bar]; exact hlen2
      have hlk : (l.take k).length ≤ 4096 := by rw [List.length_take]; omega
      have hRs : R.size ≤ 300000 := by rw [HR.out.1, bar]; omega
      have cL : ∀ w, Calls Tryd.prog 11 #[.agg #[.int .u16 l[k].1, .int .u8 l[k].2.1, .int .u8 l[k].2.2.1, .int .u32 l[k].2.2.2]] w fun e w' => e = .returned (.tuple #[.string S, .int .i64 er]) ∧ Below w.heap.size w w' := by
        rw [hS, her]
        exact fun w => rline_any l[k].1 l[k].2.1 l[k].2.2.1 l[k].2.2.2 hok w
      rw [← her] at HB HA
      have HSS := Lib.hid hS
      clear HL HO p0 p1 p2 p3 hnx hlen hlen2 hlk hS her hok
      by_cases hz : er = 0
      · have hz' : (er != 0) = false := by rw [hz]; rfl
        go_wp2_with (first
          | (go_at_call 11; refine (cL _).mono ?_; rintro e w2 ⟨rfl, hb2⟩; have HB2 := Lib.hid (HR.out.2.1.trans (hb2.mono HR.out.2.1.size)); clear hb2))
        go_roundw
        case rel =>
          refine ⟨k + 1, _, by omega, by go_num, rfl, ?_, HB2.out, HB.out hz⟩
          rw [HS.out, HR.out.1, HSS.out]
          apply M.bytes_ext
          simp
        case measure => simp [intOf]; omega
      · have hz' : (er != 0) = true := by simpa using hz
        go_wp2_with (first
          | (go_at_call 11; refine (cL _).mono ?_; rintro e w2 ⟨rfl, hb2⟩; have HB2 := Lib.hid (HR.out.2.1.trans (hb2.mono HR.out.2.1.size)); clear hb2))
        go_ret2
        refine ⟨?_, HB2.out⟩
        have e1 : X = ([], er) := by
          have e2 := HA.out hz
          rw [HX.out]
          unfold M.print
          rw [if_neg (by rintro rfl; simp at h0), if_neg (by omega), if_neg (by rw [e2]; exact hz), e2]
        rw [e1]
        rfl
    · obtain rfl : k = l.length := by omega
      have i1 : ¬ (l.length : Int) < (l.length : Int) := by omega
      rw [List.take_length] at HR
      have e1 : X = (M.txt l, 0) := by
        rw [HX.out]
        unfold M.print
        rw [if_neg (by rintro rfl; simp at h0), if_neg (by omega), if_pos HR.out.2.2]
      have HE := Lib.hid e1
      clear HL HO e1
      go_wp2
      go_ret2
      rw [HE.out]
      exact ⟨by rw [HR.out.1]; rfl, HR.out.2.1⟩

theorem tread_empty (w : World) : Calls Tryd.prog 15 #[.string ⟨#[]⟩] w fun e w' => e = .returned (.tuple #[.slice none 0 0, .int .i64 0, .int .i64 4]) ∧ Below w.heap.size w w' := by
  go_enter Tryd.func15, Tryd.ntmps15
  go_wp2
  go_ret3
  exact ⟨rfl, Below.refl _ _⟩

set_option maxHeartbeats 3200000 in
set_option maxRecDepth 1000000 in
theorem tread_rows (s : ByteArray) (h0 : s.data.toList ≠ []) (hs : s.size ≤ 100000) (hc : s.data.toList.count 10 ≤ 4096) (w : World) :
    Calls Tryd.prog 15 #[.string s] w fun e w' => ReadOut (M.rows [] 0 s.data.toList) w e w' := by
  obtain ⟨i0, hi, hz0, hz1, hz2⟩ := info_parts info39
  obtain ⟨l, hl⟩ : ∃ l, l = s.data.toList := ⟨_, rfl⟩
  have hln : s.size = l.length := by rw [bdl, hl]
  have hse : (s.toList == []) = false := by
    rw [ByteArray.toList_eq, ← hl]
    rw [← hl] at h0
    simpa using h0
  rw [← hl] at h0 hc ⊢
  obtain ⟨X, hX⟩ : ∃ X, X = M.rows [] 0 l := ⟨_, rfl⟩
  rw [← hX]
  have HX := Lib.hid hX
  have HL := Lib.hid hl
  have H0 := Lib.hid h0
  have HCC := Lib.hid hc
  have hat : ∀ k (h : k < l.length), M.at_ s k = (l[k].toNat : Int) := by
    intro k h
    unfold M.at_
    rw [← hl, List.getD_eq_getElem?_getD, List.getElem?_eq_getElem h]
    rfl
  have HAT := Lib.hid hat
  clear hX h0 hl hat hc
  go_enter Tryd.func15, Tryd.ntmps15
  go_wp2
  go_loop [5, 6] (fun v i => ∃ k : Nat, k ≤ l.length ∧ i = .int .i64 k ∧ v = .int .i64 ((l.take k).count 10 : Nat))
    (fun _ i => l.length - (intOf i).toNat)
  case atStart => exact ⟨0, Nat.zero_le _, rfl, rfl⟩
  case round =>
    obtain ⟨k, hk, rfl, rfl⟩ := hrel
    by_cases hlt : k < l.length
    · have i1 : (k : Int) < (s.size : Int) := by omega
      obtain ⟨b, hb⟩ : ∃ b : Int, b = M.at_ s k := ⟨_, rfl⟩
      have hix := fun W => index_at s k (by omega) b hb W
      have hbl : b = (l[k].toNat : Int) := by rw [hb]; exact HAT.out k hlt
      obtain ⟨n, hn⟩ : ∃ n, n = (l.take k).count 10 := ⟨_, rfl⟩
      have hnk : n ≤ k := by
        rw [hn]
        have := List.count_le_length (a := (10 : UInt8)) (l := l.take k)
        rw [List.length_take] at this; omega
      have hct := M.count_take hlt
      rw [← hn] at hct ⊢
      by_cases h10 : l[k] = 10
      · have i3 : (b == 10) = true := by rw [hbl, h10]; rfl
        rw [if_pos h10] at hct
        have HT := Lib.hid hct
        have H1 := Lib.hid hln
        clear hct hbl hb hn h10 hln
        go_wp2
        go_round
        case rel => exact ⟨k + 1, by omega, by go_num, by rw [HT.out]; go_num⟩
        case measure => simp [intOf]; omega
      · have i3 : (b == 10) = false := by
          rw [hbl, beq_eq_false_iff_ne]
          intro e
          exact h10 (UInt8.toNat_inj.1 (by show l[k].toNat = 10; omega))
        rw [if_neg h10] at hct
        have HT := Lib.hid hct
        have H1 := Lib.hid hln
        clear hct hbl hb hn h10 hln
        go_wp2
        go_round
        case rel => exact ⟨k + 1, by omega, by go_num, by rw [HT.out]; go_num⟩
        case measure => simp [intOf]; omega
    · obtain rfl : k = l.length := by omega
      have i1 : ¬ (l.length : Int) < (s.size : Int) := by omega
      rw [List.take_length]
      obtain ⟨n, hn⟩ : ∃ n, n = l.count 10 := ⟨_, rfl⟩
      have hn4 : n ≤ 4096 := by rw [hn]; exact HCC.out
      rw [← hn]
      have i2 : ¬ (4096 : Int) < n := by omega
      clear hn
      go_wp2
      go_loopw [7, 8, 9] (fun v p i wr => ∃ (k q : Nat) (acc : List M.I), i = .int .i64 k ∧ p = .int .i64 q ∧ acc.length ≤ k ∧ k ≤ l.length ∧ q ≤ k ∧ Hid (wr.ownsRow w.heap.size 25 4 v acc.length (i4s acc) ∧ Below w.heap.size w wr ∧ M.Rd l acc q k))
        (fun _ _ i _ => l.length - (intOf i).toNat)
      case atStart => exact ⟨0, 0, [], rfl, rfl, Nat.zero_le _, Nat.zero_le _, Nat.zero_le _, World.ownsRow_nil _ _ _ _, Below.refl _ _, M.Rd.start l⟩
      case round =>
        obtain ⟨k, q, acc, rfl, rfl, hac, hk, hq, HR⟩ := hrel
        clear i1 i2
        by_cases hlt : k < l.length
        · have i1 : (k : Int) < (s.size : Int) := by omega
          obtain ⟨b, hb⟩ : ∃ b : Int, b = M.at_ s k := ⟨_, rfl⟩
          have hix := fun W => index_at s k (by omega) b hb W
          have hbl : b = (l[k].toNat : Int) := by rw [hb]; exact HAT.out k hlt
          by_cases h10 : l[k] = 10
          · have i3 : (b == 10) = true := by rw [hbl, h10]; rfl
            obtain ⟨D, hD⟩ : ∃ D : ByteArray, D = ⟨((l.take k).drop q).toArray⟩ := ⟨_, rfl⟩
            have hDl : D.data.toList = (l.take k).drop q := by rw [hD]
            have hDs : D.size ≤ 100000 := by rw [hD, bar]; simp; omega
            have hsl : ∀ W : World, (Instr.slice 9 (.string s) (some (.int .i64 (q : Int))) (some (.int .i64 (k : Int))) none).run Tryd.prog W = .ok (.string D) W := fun W => by
              have := run_slice_string (P := Tryd.prog) (w := W) 9 s .i64 .i64 (q : Int) (k : Int) Tryd.underlying9 (by omega) (by omega) (by omega)
              rw [this, hD]
              congr 2
              rw [Lib.extract_eq, ← HL.out, List.drop_take]
              simp
            have cP := fun w => rparse_any D hDs w
            rw [hDl] at cP
            cases hpp : M.parse ((l.take k).drop q) with
            | none =>
              have hx := M.Rd.none HR.out.2.2 hlt h10 hpp
              have HXX := Lib.hid (HX.out.trans hx)
              rw [hpp] at cP
              have cP : ∀ w, Calls Tryd.prog 13 #[.string D] w fun e w' => e = .returned (.tuple #[.agg #[.int .u16 0, .int .u8 0, .int .u8 0, .int .u32 0], .bool false]) ∧ Below w.heap.size w w' := cP
              have H1 := Lib.hid hln
              clear hx hD hDl hbl hb h10 hln hpp
              go_wp2_with (go_at_call 13; refine (cP _).mono ?_; rintro e w3 ⟨rfl, hb3⟩; have hB := Lib.hid (HR.out.2.1.trans (hb3.mono HR.out.2.1.size)); clear hb3)
              go_ret3
              rw [HXX.out]
              exact ⟨rfl, hB.out.alloc hB.out.size _⟩
            | some i =>
              obtain ⟨c, t, f, kk⟩ := i
              have hx := M.Rd.cut HR.out.2.2 hlt hq h10 hpp
              have HXX := Lib.hid hx
              rw [hpp] at cP
              have cP : ∀ w, Calls Tryd.prog 13 #[.string D] w fun e w' => e = .returned (.tuple #[.agg #[.int .u16 c, .int .u8 t, .int .u8 f, .int .u32 kk], .bool true]) ∧ Below w.heap.size w w' := cP
              have HI : Hid (i4s (acc ++ [(c, t, f, kk)]) = i4s acc ++ [.int .u16 c, .int .u8 t, .int .u8 f, .int .u32 kk]) := i4s_snoc acc (c, t, f, kk)
              have H1 := Lib.hid hln
              clear hx hD hDl hbl hb h10 hln hpp
              go_wp2_with (first
                | (go_at_call 13; refine (cP _).mono ?_; rintro e w3 ⟨rfl, hb3⟩; have hB := Lib.hid (And.intro (HR.out.2.1.trans (hb3.mono HR.out.2.1.size)) (own_below HR.out.1 hb3)); clear hb3; have hsz : w.heap.size ≤ w3.heap.size := hB.out.1.size)
                | (at_builtin; refine wpList_append_lies _ rfl _ _ 37 rfl w.heap.size 25 i0 (.agg #[.int .u16 0, .int .u8 0, .int .u8 0, .int .u32 0]) 4 8 Tryd.underlying37 hi hz0 hz1 hz2 rfl (by decide) _ acc.length _ rfl ((hB.out.2.alloc _).alloc _) ⟨w3.heap.size + 1, 0, none⟩ 1 1 [.int .u16 c, .int .u8 t, .int .u8 f, .int .u32 kk] rfl rfl ?c1 ?c2 (by decide) ?c3 ?c4 ?c5 (w3.heap.size + 2) ?c6 ?_))
              case c1 => exact news2 w3 _ _ rfl
              case c2 => intro u hu; simp at hu; rcases hu with rfl | rfl | rfl | rfl <;> rfl
              case c3 => have := H1.out; unfold maxLen; omega
              case c4 => have := H1.out; omega
              case c5 => simp; omega
              case c6 => simp
              intro g cap w4 hown4 hgrow hat hlt4
              rw [← HI.out] at hown4
              have HH : Hid (w4.ownsRow w.heap.size 25 4 (.slice (some ⟨g, 0, none⟩) (acc.length + 1) cap) (acc ++ [(c, t, f, kk)]).length (i4s (acc ++ [(c, t, f, kk)])) ∧ Below w.heap.size w w4) :=
                ⟨by rw [List.length_append]; exact hown4, hB.out.1.trans (below_own2 hB.out.2 hsz hgrow)⟩
              clear hown4 hgrow hat hB HI
              go_wp2
              go_roundw
              case rel => exact ⟨k + 1, k + 1, acc ++ [(c, t, f, kk)], by go_num, by go_num, by simp; omega, by omega, by omega, HH.out.1, HH.out.2, HXX.out⟩
              case measure => simp [intOf]; omega
          · have i3 : (b == 10) = false := by
              rw [hbl, beq_eq_false_iff_ne]
              intro e
              exact h10 (UInt8.toNat_inj.1 (by show l[k].toNat = 10; omega))
            have HXX := Lib.hid (M.Rd.on HR.out.2.2 hlt hq h10)
            have H1 := Lib.hid hln
            clear hbl hb h10 hln
            go_wp2
            go_roundw
            case rel => exact ⟨k + 1, q, acc, by go_num, rfl, by omega, by omega, by omega, HR.out.1, HR.out.2.1, HXX.out⟩
            case measure => simp [intOf]; omega
        · obtain rfl : k = l.length := by omega
          have i1 : ¬ (l.length : Int) < (s.size : Int) := by omega
          by_cases hql : q < l.length
          · have i4 : (q : Int) < (s.size : Int) := by omega
            have HXX := Lib.hid (HX.out.trans (M.Rd.open HR.out.2.2 hql))
            have H1 := Lib.hid hln
            clear hln
            go_wp2
            go_ret3
            rw [HXX.out]
            exact ⟨rfl, HR.out.2.1⟩
          · obtain rfl : q = l.length := by omega
            have hx := M.Rd.done HR.out.2.2
            have HXX := Lib.hid (HX.out.trans hx)
            have hne : 0 < acc.length := by
              rcases Nat.eq_zero_or_pos acc.length with h | h
              · have e : acc = [] := List.eq_nil_of_length_eq_zero h
                have := (M.rows_ok l [] 0 acc hx).1
                rw [e] at this
                exact absurd this.symm (by simpa [M.txt] using H0.out)
              · exact h
            obtain ⟨g, cap, hv⟩ := own_form HR.out.1 hne
            have HL2 := Lib.hid (And.intro (show Lies wr (some ⟨g, 0, none⟩) acc from lies_of_own (by rw [← hv]; exact HR.out.1) rfl) HR.out.2.1)
            rw [hv]
            have H1 := Lib.hid hln
            clear hx hv hln
            go_wp2
            go_ret3
            rw [HXX.out]
            exact ⟨g, cap, rfl, HL2.out.1, HL2.out.2⟩
end Go.Proofs.YtapjjpjiggjlfaaDoor.B
