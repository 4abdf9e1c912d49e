/-
  A program's text, as a walk over the Go text.
-/
import Derived.Test.YtapjjpjiggjlfaaDoorAsmLine
import Derived.Test.YtapjjpjiggjlfaaDoorInsJoin
import Derived.Test.YtapjjpjiggjlfaaDoorInsPrint
import Derived.Lib.OthersKept
import Derived.Lib.Builder
namespace Go.Proofs.YtapjjpjiggjlfaaDoor.M
theorem txt_snoc {l : List I} {k : Nat} (h : k < l.length) : txt (l.take (k + 1)) = txt (l.take k) ++ ((line l[k]).1 ++ [10]) := by
  rw [List.take_succ_eq_append_getElem h, txt_append]; simp [txt]
theorem bad_snoc {l : List I} {k : Nat} (h : k < l.length) (hb : bad (l.take k) = 0) (hl : (line l[k]).2 = 0) : bad (l.take (k + 1)) = 0 := by
  rw [List.take_succ_eq_append_getElem h, bad_append, if_pos hb]; simp [bad, hl]
theorem bad_at {l : List I} {k : Nat} (h : k < l.length) (hb : bad (l.take k) = 0) (hl : (line l[k]).2 ≠ 0) : bad l = (line l[k]).2 := by
  conv => lhs; rw [← List.take_append_drop k l]
  rw [bad_append, if_pos hb, List.drop_eq_getElem_cons h, bad, if_neg hl]
end Go.Proofs.YtapjjpjiggjlfaaDoor.M
namespace Go.Proofs.YtapjjpjiggjlfaaDoor.B
open Go.ChangeShapes Go.WideShapes Go.ChangeAt Go.RowKit
open Go.Sort hiding Below
set_option linter.unusedVariables false

theorem rowF_below {w w' : World} {base : Nat} {e : TypeId} {size : Nat} {v : Value} {n : Nat} {xs : List Value} (h : w.ownsRowF base e size v n xs) (hb : Below w.heap.size w w') : w'.ownsRowF base e size v n xs := by
  refine ⟨h.1, ?_⟩
  rcases h.2 with h' | ⟨g, cap, cur, fz, h1, h2, h3, h4⟩
  · exact .inl h'
  · refine .inr ⟨g, cap, cur, fz, h1, h2, ?_, h4⟩
    have hlt : g < w.heap.size := by
      rcases Nat.lt_or_ge g w.heap.size with a | a
      · exact a
      · rw [Array.getElem?_eq_none a] at h3; cases h3
    rw [hb.block g hlt]; exact h3
theorem builder_below {T e : TypeId} {B b : Nat} {bs : List Value} {w w' : World} (h : Lib.IsBuilderF T e B b bs w) (hb : Below w.heap.size w w') : Lib.IsBuilderF T e B b bs w' := by
  rcases h with h | h
  · have hlt := h.lt
    obtain ⟨hB, v, hbb, hown, hne⟩ := h
    exact .inl ⟨hB, v, by rw [hb.block b hlt]; exact hbb, rowF_below hown hb, hne⟩
  · have hlt := h.lt
    obtain ⟨hB, v, hbb, hown, hne⟩ := h
    exact .inr ⟨hB, v, by rw [hb.block b hlt]; exact hbb, rowF_below hown hb, hne⟩
theorem byteCells_str (l : List UInt8) (s : List UInt8) : Lib.byteCells l ++ Lib.strCells ⟨s.toArray⟩ = Lib.byteCells (l ++ s) := by
  simp [Lib.byteCells, Lib.strCells]

theorem aprint_none (a : Option Addr) (cap : Nat) (w : World) :
    Calls Tryd.prog 17 #[.slice a 0 cap] w fun e w' => e = .returned (.tuple #[.string { data := #[] }, .int .i64 4]) ∧ Below w.heap.size w w' := by
  go_enter Tryd.func17, Tryd.ntmps17
  go_wp2_with (go_at_call 35; refine (print_none a cap _).mono ?_; rintro e w' ⟨rfl, rfl⟩)
  go_ret2
  exact ⟨rfl, Below.refl _ _⟩

set_option maxHeartbeats 1600000 in
set_option maxRecDepth 1000000 in
theorem aprint_some (a : Option Addr) (l : List M.I) (ca : Nat) (w : World) (hl : Lies w a l) (ok : ∀ i ∈ l, M.okI i) (h0 : 0 < l.length) (h1 : l.length ≤ 4096) (hN : Nm w) :
    Calls Tryd.prog 17 #[.slice a l.length ca] w fun e w' => e = .returned (.tuple #[.string ⟨(M.print l).1.toArray⟩, .int .i64 (M.print l).2]) ∧ Below w.heap.size w w' := by
  have cP := print_any a l ca w hl ok h0 h1
  rcases hl with hl | ⟨b, o, rfl, hb, hl⟩
  · rw [hl] at h0; simp at h0
  obtain ⟨PS, hPS⟩ : ∃ PS, PS = M.str (M.pr l) := ⟨_, rfl⟩
  rw [← hPS] at cP
  have HO : Hid (∀ i ∈ l, M.okI i) := ok
  have HL : Hid (∀ (j : Nat) (h : j < l.length), LiesAt w b o j l[j]) := hl
  have HN := Lib.hid hN
  obtain ⟨X, hX⟩ : ∃ X, X = M.print l := ⟨_, rfl⟩
  rw [← hX]
  have HX := Lib.hid hX
  clear ok hl hPS hN hX
  go_enter Tryd.func17, Tryd.ntmps17
  go_wp2_with (go_at_call 35; refine cP.mono ?_; rintro e w1 ⟨rfl, hb1⟩; have hB := Lib.hid hb1; clear hb1)
  have hle1 : w.heap.size ≤ w1.heap.size := hB.out.size
  go_loopw [21] (fun i wr => ∃ k : Nat, k ≤ l.length ∧ i = .int .i64 k ∧ Hid (Lib.IsBuilderF 72 5 w1.heap.size w1.heap.size (Lib.byteCells (M.txt (l.take k))) wr ∧ Below w1.heap.size w1 wr ∧ M.bad (l.take k) = 0))
    (fun i _ => l.length - (intOf i).toNat)
  case atStart => exact ⟨0, Nat.zero_le _, rfl, Lib.IsBuilderF.of (Lib.fresh_isBuilder 72 5 w1), (Below.refl _ _).alloc (Nat.le_refl _) _, rfl⟩
  case round =>
    obtain ⟨k, hk, rfl, HR⟩ := hrel
    by_cases hlt : k < l.length
    · obtain ⟨p0, p1, p2, p3⟩ := HL.out k hlt
      have hok := HO.out l[k] (List.getElem_mem hlt)
      have hnx : Below w.heap.size w wr := hB.out.trans (HR.out.2.1.mono hle1)
      have q0 := (hnx.cell (p := ⟨b, o + k * 4, none⟩) hb).trans p0
      have q1 := (hnx.cell (p := ⟨b, o + k * 4 + 1, none⟩) hb).trans p1
      have q2 := (hnx.cell (p := ⟨b, o + k * 4 + 2, none⟩) hb).trans p2
      have q3 := (hnx.cell (p := ⟨b, o + k * 4 + 3, none⟩) hb).trans p3
      have hNx := Lib.hid (HN.out.below hnx)
      have i1 : (k : Int) < (l.length : Int) := by omega
      have HS := Lib.hid (M.txt_snoc hlt)
      have HB := Lib.hid (fun h => M.bad_snoc hlt HR.out.2.2 h)
      have HA := Lib.hid (fun h => M.bad_at hlt HR.out.2.2 h)
      have hlen := M.txt_len (l.take k)
      have hlen2 := M.line_len l[k]
      obtain ⟨S, hS⟩ : ∃ S : ByteArray, S = ⟨(M.line l[k]).1.toArray⟩ := ⟨_, rfl⟩
      obtain ⟨er, her⟩ : ∃ er, er = (M.line l[k]).2 := ⟨_, rfl⟩
      have hSs : S.size ≤ 69 := by rw [hS, bar]; exact hlen2
      have hlk : (l.take k).length ≤ 4096 := by rw [List.length_take]; omega
      have hbs : (Lib.byteCells (M.txt (l.take k))).length ≤ 300000 := by
        have : (Lib.byteCells (M.txt (l.take k))).length = (M.txt (l.take k)).length := by simp [Lib.byteCells]
        omega
      have cL : ∀ w, Nm w → Calls Tryd.prog 10 #[.agg #[.int .u16 l[k].1, .int .u8 l[k].2.1, .int .u8 l[k].2.2.1, .int .u32 l[k].2.2.2]] w fun e w' => e = .returned (.tuple #[.string S, .int .i64 er]) ∧ Below w.heap.size w w' := by
        rw [hS, her]
        exact fun w hw => line_any l[k].1 l[k].2.1 l[k].2.2.1 l[k].2.2.2 hok w hw
      rw [← her] at HB HA
      have HSS := Lib.hid hS
      have hbs2 : (Lib.byteCells (M.txt (l.take k)) ++ Lib.strCells S).length + (⟨#[10]⟩ : ByteArray).size ≤ 140737488355328 := by
        rw [List.length_append, Lib.strCells_length]
        show _ + 1 ≤ _
        omega
      have HBS := Lib.hid hbs
      have HBT := Lib.hid hbs2
      clear hbs2
      clear HL HO p0 p1 p2 p3 cP hnx hlen hlen2 hlk hbs hS her hok
      by_cases hz : er = 0
      · have hz' : (er != 0) = false := by rw [hz]; rfl
        go_wp2_with (first
          | (go_at_call 10; refine (cL _ (hNx.out.below ((Below.refl _ _).alloc (Nat.le_refl _) _))).mono ?_; rintro e w2 ⟨rfl, hb2⟩; have hb2 : Below wr.heap.size wr w2 := ((Below.refl _ _).alloc (Nat.le_refl _) _).trans (hb2.mono (by simp)); have HB2 := Lib.hid (And.intro (builder_below HR.out.1 hb2) (HR.out.2.1.trans (hb2.mono HR.out.2.1.size))); clear hb2)
          | (go_at_call_of 36 (Value.string S); refine (Tryd.Builder_WriteString_k _ _ _ S _ HB2.out.1 (by have := HBS.out; omega) HB2.out.2.size).mono ?_; rintro e w3 ⟨rfl, hbu, hb3, hok3⟩; have HB3 := Lib.hid (And.intro (show Lib.IsBuilderF 72 5 w1.heap.size w1.heap.size _ w3 from Or.inr hbu) (HB2.out.2.trans hb3)); clear hbu hb3 hok3)
          | (go_at_call 36; refine (Tryd.Builder_WriteString_k _ _ _ _ _ HB3.out.1 HBT.out HB3.out.2.size).mono ?_; rintro e w4 ⟨rfl, hbu, hb3, hok3⟩; have HB4 := Lib.hid (And.intro (show Lib.IsBuilderF 72 5 w1.heap.size w1.heap.size _ w4 from Or.inr hbu) (HB3.out.2.trans hb3)); clear hbu hb3 hok3))
        go_roundw
        case rel =>
          refine ⟨k + 1, by omega, by go_num, ?_, HB4.out.2, HB.out hz⟩
          have hh := HB4.out.1
          rw [HSS.out, byteCells_str] at hh
          have e10 : Lib.strCells ⟨#[10]⟩ = Lib.strCells ⟨[10].toArray⟩ := rfl
          rw [e10, byteCells_str, List.append_assoc, ← HS.out] at hh
          exact hh
        case measure => simp [intOf]; omega
      · have hz' : (er != 0) = true := by simpa using hz
        go_wp2_with (first
          | (go_at_call 10; refine (cL _ (hNx.out.below ((Below.refl _ _).alloc (Nat.le_refl _) _))).mono ?_; rintro e w2 ⟨rfl, hb2⟩; have hb2 : Below wr.heap.size wr w2 := ((Below.refl _ _).alloc (Nat.le_refl _) _).trans (hb2.mono (by simp)); have HB2 := Lib.hid (HR.out.2.1.trans (hb2.mono HR.out.2.1.size)); clear hb2))
        go_ret2
        refine ⟨?_, hB.out.trans (HB2.out.mono hle1)⟩
        have e1 : X = ([], er) := by
          have e2 := HA.out hz
          rw [HX.out]
          unfold M.print
          rw [if_neg (by rintro rfl; simp at h0), if_neg (by omega), if_neg (by rw [e2]; exact hz), e2]
        rw [e1]
        rfl
    · obtain rfl : k = l.length := by omega
      have i1 : ¬ (l.length : Int) < (l.length : Int) := by omega
      rw [List.take_length] at HR
      have e1 : X = (M.txt l, 0) := by
        rw [HX.out]
        unfold M.print
        rw [if_neg (by rintro rfl; simp at h0), if_neg (by omega), if_pos HR.out.2.2]
      have HE := Lib.hid e1
      clear HL HO cP e1
      go_wp2_with (go_at_call 37; refine (Tryd.Builder_String_any_k w1.heap.size w1.heap.size (M.txt l) _ HR.out.1 HR.out.2.1.size).mono ?_; rintro e w5 ⟨rfl, hbu, hb5, hok5⟩)
      go_ret2
      rw [HE.out]
      exact ⟨rfl, hB.out.trans ((HR.out.2.1.trans hb5).mono hle1)⟩
end Go.Proofs.YtapjjpjiggjlfaaDoor.B
