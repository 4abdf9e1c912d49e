/-
  A line's parts between single blanks, in the document's own words, as a walk over the Go text.
-/
import Derived.Test.YtapjjpjiggjlfaaDoorAsmRefV
import Derived.Test.YtapjjpjiggjlfaaDoorInsJoin
namespace Go.Proofs.YtapjjpjiggjlfaaDoor.M
def wordsF : List UInt8 → List UInt8 → List (List UInt8)
  | cur, [] => [cur]
  | cur, b :: l => if b = 32 then cur :: wordsF [] l else wordsF (cur ++ [b]) l
def words (l : List UInt8) : List (List UInt8) := wordsF [] l
theorem wordsF_run {a : List UInt8} (h : ∀ b ∈ a, b ≠ 32) : ∀ (cur r : List UInt8), wordsF cur (a ++ r) = wordsF (cur ++ a) r := by
  induction a with
  | nil => intro cur r; simp
  | cons b a ih =>
    intro cur r
    rw [List.cons_append, wordsF, if_neg (h b (by simp)), ih (fun c hc => h c (by simp [hc]))]
    simp
theorem words_more {a : List UInt8} (h : ∀ b ∈ a, b ≠ 32) (r : List UInt8) : words (a ++ 32 :: r) = a :: words r := by
  unfold words
  rw [wordsF_run h, wordsF, if_pos rfl, List.nil_append]
theorem words_one {a : List UInt8} (h : ∀ b ∈ a, b ≠ 32) : words a = [a] := by
  have := wordsF_run h [] []
  rw [List.append_nil] at this
  unfold words
  rw [this, wordsF, List.nil_append]
theorem words_ne (l : List UInt8) : words l ≠ [] := by
  have : ∀ (l cur : List UInt8), wordsF cur l ≠ [] := by
    intro l
    induction l with
    | nil => intro cur; simp [wordsF]
    | cons b l ih =>
      intro cur
      rw [wordsF]
      split
      · simp
      · exact ih _
  exact this l []
theorem words_len (l : List UInt8) : (words l).length ≤ l.length + 1 := by
  have : ∀ (l cur : List UInt8), (wordsF cur l).length ≤ l.length + 1 := by
    intro l
    induction l with
    | nil => intro cur; simp [wordsF]
    | cons b l ih =>
      intro cur
      rw [wordsF]
      split
      · have := ih []; simp; omega
      · have := ih (cur ++ [b]); simp; omega
  exact this l []
theorem words_size (l : List UInt8) : ∀ a ∈ words l, a.length ≤ l.length := by
  have : ∀ (l cur : List UInt8), ∀ a ∈ wordsF cur l, a.length ≤ cur.length + l.length := by
    intro l
    induction l with
    | nil => intro cur a ha; simp [wordsF] at ha; subst ha; simp
    | cons b l ih =>
      intro cur a ha
      rw [wordsF] at ha
      split at ha
      · rcases List.mem_cons.1 ha with rfl | ha
        · simp
        · have := ih [] a ha; simp at this ⊢; omega
      · have := ih _ a ha; simp at this ⊢; omega
  intro a ha
  have := this l [] a ha
  simpa using this
theorem words_head (l : List UInt8) : (words l)[0]? = some (bef 32 l) := by
  have h1 := bef_aft 32 l
  rcases aft_head 32 l with h | ⟨r, h⟩
  · rw [h, List.append_nil] at h1
    have := words_one (bef_no 32 l)
    rw [h1] at this ⊢
    rw [this]; rfl
  · rw [h] at h1
    have := words_more (bef_no 32 l) r
    rw [h1] at this
    rw [this]; rfl
/-- the words that are there ahead of place k, and what is not yet one -/
def Wd (l : List UInt8) (acc : List (List UInt8)) (p k : Nat) : Prop := words l = acc ++ wordsF ((l.take k).drop p) (l.drop k)
theorem Wd.start (l : List UInt8) : Wd l [] 0 0 := by simp [Wd, words]
theorem Wd.on {l : List UInt8} {acc : List (List UInt8)} {p k : Nat} (h : Wd l acc p k) (hk : k < l.length) (hp : p ≤ k) (hb : l[k] ≠ 32) : Wd l acc p (k + 1) := by
  unfold Wd at *
  rw [h, List.drop_eq_getElem_cons hk, wordsF, if_neg hb, List.take_succ_eq_append_getElem hk, List.drop_append_of_le_length (by rw [List.length_take]; omega)]
theorem Wd.cut {l : List UInt8} {acc : List (List UInt8)} {p k : Nat} (h : Wd l acc p k) (hk : k < l.length) (hb : l[k] = 32) : Wd l (acc ++ [(l.take k).drop p]) (k + 1) (k + 1) := by
  unfold Wd at *
  rw [h, List.drop_eq_getElem_cons hk, wordsF, if_pos hb]
  have : (l.take (k + 1)).drop (k + 1) = [] := by simp
  rw [this]
  simp
theorem Wd.last {l : List UInt8} {acc : List (List UInt8)} {p : Nat} (h : Wd l acc p l.length) : words l = acc ++ [(l.take l.length).drop p] := by
  unfold Wd at h
  rw [h, List.drop_length, wordsF]
end Go.Proofs.YtapjjpjiggjlfaaDoor.M
namespace Go.Proofs.YtapjjpjiggjlfaaDoor.B
open Go.ChangeShapes Go.WideShapes Go.ChangeAt Go.RowKit
open Go.Sort hiding Below
set_option linter.unusedVariables false

theorem info9 : (Tryd.prog.info? 9).map (fun i => (i.zero, i.size, i.bytes)) = some (some (.string ⟨#[]⟩), 1, 16) := by kernel_rfl
def svs (ws : List (List UInt8)) : List Value := ws.map fun a => .string ⟨a.toArray⟩

set_option maxHeartbeats 1600000 in
set_option maxRecDepth 1000000 in
theorem words_any (s : ByteArray) (hs : s.size ≤ 100000) (w : World) :
    Calls Tryd.prog 31 #[.string s] w fun e w' => ∃ g cap, e = .returned (.slice (some ⟨g, 0, none⟩) (M.words s.data.toList).length cap) ∧ w'.ownsRow w.heap.size 9 1 (.slice (some ⟨g, 0, none⟩) (M.words s.data.toList).length cap) (M.words s.data.toList).length (svs (M.words s.data.toList)) ∧ Below w.heap.size w w' := by
  obtain ⟨i0, hi, hz0, hz1, hz2⟩ := info_parts info9
  obtain ⟨l, hl⟩ : ∃ l, l = s.data.toList := ⟨_, rfl⟩
  have hln : s.size = l.length := by rw [bdl, hl]
  rw [← hl]
  have HL := Lib.hid hl
  clear hl
  go_enter Tryd.func31, Tryd.ntmps31
  go_wp2
  go_loopw [3, 4, 5] (fun v p i wr => ∃ (k q : Nat) (acc : List (List UInt8)), i = .int .i64 k ∧ p = .int .i64 q ∧ acc.length ≤ k ∧ Hid (wr.ownsRow w.heap.size 9 1 v acc.length (svs acc) ∧ Below w.heap.size w wr) ∧ ((k ≤ l.length ∧ q ≤ k ∧ Hid (M.Wd l acc q k)) ∨ (k = l.length + 1 ∧ Hid (M.words l = acc))))
    (fun _ _ i _ => l.length + 1 - (intOf i).toNat)
  case atStart => exact ⟨0, 0, [], rfl, rfl, Nat.zero_le _, ⟨World.ownsRow_nil _ _ _ _, Below.refl _ _⟩, Or.inl ⟨Nat.zero_le _, Nat.zero_le _, M.Wd.start l⟩⟩
  case round =>
    obtain ⟨k, q, acc, rfl, rfl, hac, HR, hcase⟩ := hrel
    rcases hcase with ⟨hk, hq, HD⟩ | ⟨hk, HD⟩
    · have i1 : (k : Int) ≤ (s.size : Int) := by omega
      have hsl : ∀ W : World, (Instr.slice 9 (.string s) (some (.int .i64 (q : Int))) (some (.int .i64 (k : Int))) none).run Tryd.prog W = .ok (.string ⟨((l.take k).drop q).toArray⟩) W := fun W => by
        have := run_slice_string (P := Tryd.prog) (w := W) 9 s .i64 .i64 (q : Int) (k : Int) Tryd.underlying9 (by omega) (by omega) (by omega)
        rw [this]
        congr 2
        rw [Lib.extract_eq, ← HL.out, List.drop_take]
        simp
      by_cases hlt : k < l.length
      · have i2 : ((k : Int) == (s.size : Int)) = false := beq_eq_false_iff_ne.2 (by omega)
        obtain ⟨b, hb⟩ : ∃ b : Int, b = M.at_ s k := ⟨_, rfl⟩
        have hix := fun W => index_at s k (by omega) b hb W
        have hbl : b = (l[k].toNat : Int) := by
          rw [hb]
          unfold M.at_
          rw [← HL.out, List.getD_eq_getElem?_getD, List.getElem?_eq_getElem hlt]
          rfl
        by_cases h32 : l[k] = 32
        · have i3 : (b == 32) = true := by rw [hbl, h32]; rfl
          have HD' := Lib.hid (HD.out.cut hlt h32)
          have hln' := Lib.hid hln
          clear hbl hb h32 hln HD
          go_wp2_with (at_builtin; refine wpList_append_lies _ rfl _ _ 63 rfl w.heap.size 9 i0 (.string ⟨#[]⟩) 1 16 Tryd.underlying63 hi hz0 hz1 hz2 rfl (by decide) _ acc.length _ rfl (HR.out.1.alloc _) ⟨wr.heap.size, 0, none⟩ 1 1 [.string ⟨((l.take k).drop q).toArray⟩] rfl rfl ?c1 ?c2 (by decide) ?c3 ?c4 ?c5 (wr.heap.size + 1) ?c6 ?_)
          case c1 => exact news1 wr _ rfl
          case c2 => intro u hu; simp at hu; subst hu; rfl
          case c3 => have := hln'.out; unfold maxLen; omega
          case c4 => have := hln'.out; omega
          case c5 => have := HR.out.2.size; simp; omega
          case c6 => simp
          intro g cap w4 hown4 hgrow hat hlt4
          have HH : Hid (w4.ownsRow w.heap.size 9 1 (.slice (some ⟨g, 0, none⟩) (acc.length + 1) cap) (acc ++ [(l.take k).drop q]).length (svs (acc ++ [(l.take k).drop q])) ∧ Below w.heap.size w w4) :=
            ⟨by rw [List.length_append, show svs (acc ++ [(l.take k).drop q]) = svs acc ++ [.string ⟨((l.take k).drop q).toArray⟩] by simp [svs]]; exact hown4, HR.out.2.trans (below_own1 HR.out.1 HR.out.2.size hgrow)⟩
          clear hown4 hgrow hat HR
          go_wp2
          go_roundw
          case rel => exact ⟨k + 1, k + 1, acc ++ [(l.take k).drop q], by go_num, by go_num, by simp; omega, HH.out, Or.inl ⟨by omega, by omega, HD'⟩⟩
          case measure => simp [intOf]; omega
        · have i3 : (b == 32) = false := by
            rw [hbl, beq_eq_false_iff_ne]
            intro e
            exact h32 (UInt8.toNat_inj.1 (by show l[k].toNat = 32; omega))
          have HD' := Lib.hid (HD.out.on hlt hq h32)
          clear hbl hb h32 hsl
          have hln' := Lib.hid hln
          clear hln HD
          go_wp2
          go_roundw
          case rel => exact ⟨k + 1, q, acc, by go_num, rfl, by omega, HR.out, Or.inl ⟨by omega, by omega, HD'⟩⟩
          case measure => simp [intOf]; omega
      · obtain rfl : k = l.length := by omega
        have i2 : ((l.length : Int) == (s.size : Int)) = true := by rw [hln]; simp
        have hdl := HD.out.last
        rw [List.take_length] at hdl hsl
        have HD' := Lib.hid hdl
        clear hdl
        have hln' := Lib.hid hln
        clear hln HD
        go_wp2_with (at_builtin; refine wpList_append_lies _ rfl _ _ 63 rfl w.heap.size 9 i0 (.string ⟨#[]⟩) 1 16 Tryd.underlying63 hi hz0 hz1 hz2 rfl (by decide) _ acc.length _ rfl (HR.out.1.alloc _) ⟨wr.heap.size, 0, none⟩ 1 1 [.string ⟨(l.drop q).toArray⟩] rfl rfl ?c1 ?c2 (by decide) ?c3 ?c4 ?c5 (wr.heap.size + 1) ?c6 ?_)
        case c1 => exact news1 wr _ rfl
        case c2 => intro u hu; simp at hu; subst hu; rfl
        case c3 => have := hln'.out; unfold maxLen; omega
        case c4 => have := hln'.out; omega
        case c5 => have := HR.out.2.size; simp; omega
        case c6 => simp
        intro g cap w4 hown4 hgrow hat hlt4
        have HH : Hid (w4.ownsRow w.heap.size 9 1 (.slice (some ⟨g, 0, none⟩) (acc.length + 1) cap) (acc ++ [l.drop q]).length (svs (acc ++ [l.drop q])) ∧ Below w.heap.size w w4) :=
          ⟨by rw [List.length_append, show svs (acc ++ [l.drop q]) = svs acc ++ [.string ⟨(l.drop q).toArray⟩] by simp [svs]]; exact hown4, HR.out.2.trans (below_own1 HR.out.1 HR.out.2.size hgrow)⟩
        clear hown4 hgrow hat HR
        go_wp2
        go_roundw
        case rel => exact ⟨l.length + 1, l.length + 1, acc ++ [l.drop q], by go_num, by go_num, by simp; omega, HH.out, Or.inr ⟨rfl, HD'⟩⟩
        case measure => simp [intOf] <;> omega
    · obtain rfl := HD.out
      subst hk
      have i1 : ¬ ((l.length : Int) + 1) ≤ (s.size : Int) := by omega
      have hne : 0 < (M.words l).length := List.length_pos_iff.2 (M.words_ne l)
      obtain ⟨g, cap, hv⟩ := own_form HR.out.1 hne
      rw [hv] at HR ⊢
      go_wp2
      go_ret
      exact ⟨g, cap, rfl, HR.out.1, HR.out.2⟩
end Go.Proofs.YtapjjpjiggjlfaaDoor.B
