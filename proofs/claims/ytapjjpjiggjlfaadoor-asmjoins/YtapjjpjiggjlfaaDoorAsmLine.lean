/-
  What is written of an instruction, and its line, as walks over the Go text.
-/
import Derived.Test.YtapjjpjiggjlfaaDoorAsmNum
import Derived.Test.YtapjjpjiggjlfaaDoorInsRef
import Derived.Test.YtapjjpjiggjlfaaDoorCodFind
import Derived.Test.YtapjjpjiggjlfaaDoorCodKind
import Derived.Lib.QuietBelow
import Derived.Deep.QuietTactic
import Derived.BigQuiet
namespace Go.Proofs.YtapjjpjiggjlfaaDoor.B
open Go.ChangeShapes Go.WideShapes Go.ChangeAt Go.RowKit
open Go.Sort hiding Below
set_option linter.unusedVariables false

theorem stp {w a b : World} (h : Hid (Below w.heap.size w a)) (h' : Below a.heap.size a b) : Hid (Below w.heap.size w b) := h.out.trans (h'.mono h.out.size)
def box (c t f k : Int) : Obj := .cells #[.int .u16 c, .int .u8 t, .int .u8 f, .int .u32 k] 25
theorem box4 {w w' : World} {c t f k : Int} (hb : Below (w.alloc (box c t f k)).heap.size (w.alloc (box c t f k)) w') :
    w'.cell? ⟨w.heap.size, 0, none⟩ = some (.int .u16 c) ∧ w'.cell? ⟨w.heap.size, 1, none⟩ = some (.int .u8 t) ∧ w'.cell? ⟨w.heap.size, 2, none⟩ = some (.int .u8 f) ∧ w'.cell? ⟨w.heap.size, 3, none⟩ = some (.int .u32 k) ∧ Hid (Below w.heap.size w w') ∧ w.heap.size < w'.heap.size := by
  have hs := hb.size
  have e : (w.alloc (box c t f k)).heap.size = w.heap.size + 1 := by simp
  have c0 := hb.cell (p := ⟨w.heap.size, 0, none⟩) (by simp)
  have c1 := hb.cell (p := ⟨w.heap.size, 1, none⟩) (by simp)
  have c2 := hb.cell (p := ⟨w.heap.size, 2, none⟩) (by simp)
  have c3 := hb.cell (p := ⟨w.heap.size, 3, none⟩) (by simp)
  refine ⟨by rw [c0]; simp [box, go_sem], by rw [c1]; simp [box, go_sem], by rw [c2]; simp [box, go_sem], by rw [c3]; simp [box, go_sem], ((Below.refl _ _).alloc (Nat.le_refl _) _).trans (hb.mono (by simp)), by omega⟩
theorem box_again {w w' w'' : World} {c t f k : Int} (h0 : w'.cell? ⟨w.heap.size, 0, none⟩ = some (.int .u16 c)) (h1 : w'.cell? ⟨w.heap.size, 1, none⟩ = some (.int .u8 t)) (h2 : w'.cell? ⟨w.heap.size, 2, none⟩ = some (.int .u8 f)) (h3 : w'.cell? ⟨w.heap.size, 3, none⟩ = some (.int .u32 k)) (hB : Hid (Below w.heap.size w w')) (hl : w.heap.size < w'.heap.size) (hb : Below w'.heap.size w' w'') :
    w''.cell? ⟨w.heap.size, 0, none⟩ = some (.int .u16 c) ∧ w''.cell? ⟨w.heap.size, 1, none⟩ = some (.int .u8 t) ∧ w''.cell? ⟨w.heap.size, 2, none⟩ = some (.int .u8 f) ∧ w''.cell? ⟨w.heap.size, 3, none⟩ = some (.int .u32 k) ∧ Hid (Below w.heap.size w w'') ∧ w.heap.size < w''.heap.size := by
  have hs := hb.size
  exact ⟨by rw [hb.cell hl]; exact h0, by rw [hb.cell hl]; exact h1, by rw [hb.cell hl]; exact h2, by rw [hb.cell hl]; exact h3, stp hB hb, by omega⟩

theorem hk10 : ∀ c ∈ M.codes, M.kind c = 10 → (!decide (c / 8 % 2 = 1) && (c / 16 % 16 * 16 != 128)) = M.hasK c := by decide
theorem hk12 : ∀ c ∈ M.codes, M.kind c = 12 → (!decide (c / 8 % 2 = 1)) = M.hasK c := by decide
theorem in_codes {c : Int} (h : M.kind c ≠ 0) : c ∈ M.codes := by
  by_cases hc : c ∈ M.codes
  · exact hc
  · exact absurd (M.kind_none hc) h

set_option maxHeartbeats 1600000 in
set_option maxRecDepth 100000 in
theorem hask_any (c t f k : Int) (ok : M.okI (c, t, f, k)) (w : World) :
    Calls Tryd.prog 22 #[.agg #[.int .u16 c, .int .u8 t, .int .u8 f, .int .u32 k]] w fun e w' => e = .returned (.bool (M.hasK c)) ∧ Below w.heap.size w w' := by
  go_enter Tryd.func22, Tryd.ntmps22
  go_wp2_with (first
    | (go_at_call 40; refine (kind_any c _).mono ?_; rintro e w' ⟨rfl, rfl⟩)
    | (go_at_call 41; refine (fromx_any c t f k ok _).mono ?_; rintro e w' ⟨rfl, hb⟩; obtain ⟨c0, c1, c2, c3, hB, hl⟩ := box4 hb; clear hb)
    | (go_at_call 42; refine (op_any c t f k ok _).mono ?_; rintro e w' ⟨rfl, hb⟩; obtain ⟨c0, c1, c2, c3, hB, hl⟩ := box_again c0 c1 c2 c3 hB hl hb; clear hb))
  all_goals go_ret
  all_goals (refine ⟨ret_bool ?_, ?_⟩; rotate_left; (first | exact (Below.refl _ _).alloc (Nat.le_refl _) _ | exact hB.out))
  iterate 9 (· rename_i h; simp [M.hasK, eq_of_beq h])
  · rename_i h1 h2
    rw [← hk10 c (in_codes (by rw [eq_of_beq h1]; decide)) (eq_of_beq h1)]
    simp [h2]
  · rename_i h1 _ _ _ _ _ _ _ h2
    rw [← hk10 c (in_codes (by rw [eq_of_beq h1]; decide)) (eq_of_beq h1)]
    simp [h2]
  · rename_i h1
    exact hk12 c (in_codes (by rw [eq_of_beq h1]; decide)) (eq_of_beq h1)
  · rename_i h1 h2 h3 h4 h5 h6 h7 h8 h9 h10 h11
    simp only [M.hasK, h1, h2, h3, h4, h5, h6, h7, h8, h9, h10, h11]
    rfl

set_option maxRecDepth 100000 in
theorem hasj_any (c t f k : Int) (w : World) :
    Calls Tryd.prog 23 #[.agg #[.int .u16 c, .int .u8 t, .int .u8 f, .int .u32 k]] w fun e w' => e = .returned (.bool (M.jif c)) ∧ Below w.heap.size w w' := by
  go_enter Tryd.func23, Tryd.ntmps23
  go_wp2_with (first
    | (go_at_call 40; refine (kind_any c _).mono ?_; rintro e w' ⟨rfl, rfl⟩))
  go_ret
  exact ⟨rfl, (Below.refl _ _).alloc (Nat.le_refl _) _⟩

theorem hask_on (c t f k : Int) (ok : M.okI (c, t, f, k)) (w : World) (d os) : Calls Tryd.prog 22 #[.agg #[.int .u16 c, .int .u8 t, .int .u8 f, .int .u32 k]] (grow (redrawn w d) os) fun e w'' => e = .returned (.bool (M.hasK c)) ∧ ∃ p : Regrown, w'' = grow (redrawn w p.d) p.os := Calls.regrown_of (hask_any c t f k ok _)
theorem hasj_on (c t f k : Int) (w : World) (d os) : Calls Tryd.prog 23 #[.agg #[.int .u16 c, .int .u8 t, .int .u8 f, .int .u32 k]] (grow (redrawn w d) os) fun e w'' => e = .returned (.bool (M.jif c)) ∧ ∃ p : Regrown, w'' = grow (redrawn w p.d) p.os := Calls.regrown_of (hasj_any c t f k _)
theorem number_on (u : Nat) (hu : u < 4294967296) (w : World) (hN : Nm w) (d os) : Calls Tryd.prog 19 #[.int .u32 u] (grow (redrawn w d) os) fun e w'' => e = .returned (.string ⟨(M.num u).toArray⟩) ∧ ∃ p : Regrown, w'' = grow (redrawn w p.d) p.os := Calls.regrown_of (number_any u hu _ (hN.below (below_regrown w d os)))

theorem bar (l : List UInt8) : (⟨l.toArray⟩ : ByteArray).size = l.length := by simp [ByteArray.size]
theorem line_bad {c t f k : Int} (hn : M.name c ≠ []) (h : (!M.hasK c && k != 0 || !M.jif c && (t != 0 || f != 0)) = true) : M.line (c, t, f, k) = ([], 1) := by
  unfold M.line; rw [if_neg hn, if_pos h]
theorem line_good {c t f k : Int} (hn : M.name c ≠ []) (h : (!M.hasK c && k != 0 || !M.jif c && (t != 0 || f != 0)) = false) : M.line (c, t, f, k) = (M.name c ++ ((if M.hasK c then 32 :: M.num k.toNat else []) ++ (if M.jif c then 32 :: (M.num t.toNat ++ 32 :: M.num f.toNat) else [])), 0) := by
  unfold M.line; rw [if_neg hn, if_neg (by simp [h])]

set_option maxHeartbeats 3200000 in
set_option maxRecDepth 100000 in
theorem line_named (c t f k : Int) (ok : M.okI (c, t, f, k)) (hn : M.name c ≠ []) (w : World) (hN : Nm w) :
    Calls Tryd.prog 10 #[.agg #[.int .u16 c, .int .u8 t, .int .u8 f, .int .u32 k]] w fun e w' => e = .returned (.tuple #[.string ⟨(M.line (c, t, f, k)).1.toArray⟩, .int .i64 (M.line (c, t, f, k)).2]) ∧ Below w.heap.size w w' := by
  obtain ⟨X, hX⟩ : ∃ X, X = M.line (c, t, f, k) := ⟨_, rfl⟩
  rw [← hX]
  obtain ⟨S, hS⟩ : ∃ S : ByteArray, S = ⟨(M.name c).toArray⟩ := ⟨_, rfl⟩
  obtain ⟨K, hK⟩ : ∃ K : ByteArray, K = ⟨(M.num k.toNat).toArray⟩ := ⟨_, rfl⟩
  obtain ⟨T, hT⟩ : ∃ T : ByteArray, T = ⟨(M.num t.toNat).toArray⟩ := ⟨_, rfl⟩
  obtain ⟨F, hF⟩ : ∃ F : ByteArray, F = ⟨(M.num f.toNat).toArray⟩ := ⟨_, rfl⟩
  have hS6 : S.size ≤ 6 := by rw [hS, bar]; exact M.keys_short _ (M.name_mem hn)
  have hSn : (S.toList == []) = false := by rw [hS]; simpa [ByteArray.toList_mk] using hn
  have hK6 : K.size ≤ 20 := by rw [hK, bar]; exact M.num_len _
  have hT6 : T.size ≤ 20 := by rw [hT, bar]; exact M.num_len _
  have hF6 : F.size ≤ 20 := by rw [hF, bar]; exact M.num_len _
  have ok' := ok
  obtain ⟨⟨o1, o2⟩, ⟨o3, o4⟩, ⟨o5, o6⟩, ⟨o7, o8⟩⟩ := ok'
  simp only at o1 o2 o3 o4 o5 o6 o7 o8
  have cN : ∀ w, Calls Tryd.prog 21 #[.int .u16 c] w fun e w' => e = .returned (.string S) ∧ Below w.heap.size w w' := by rw [hS]; exact fun w => name_any c w
  have cK : ∀ w, Nm w → Calls Tryd.prog 19 #[.int .u32 k] w fun e w' => e = .returned (.string K) ∧ Below w.heap.size w w' := by
    intro w hw
    have := number_any k.toNat (by omega) w hw
    rw [show ((k.toNat : Nat) : Int) = k by omega] at this
    rw [hK]; exact this
  have cT : ∀ w, Nm w → ∀ d os, Calls Tryd.prog 19 #[.int .u32 t] (grow (redrawn w d) os) fun e w'' => e = .returned (.string T) ∧ ∃ p : Regrown, w'' = grow (redrawn w p.d) p.os := by
    intro w hw d os
    have := number_on t.toNat (by omega) w hw d os
    rw [show ((t.toNat : Nat) : Int) = t by omega] at this
    rw [hT]; exact this
  have cF : ∀ w, Nm w → ∀ d os, Calls Tryd.prog 19 #[.int .u32 f] (grow (redrawn w d) os) fun e w'' => e = .returned (.string F) ∧ ∃ p : Regrown, w'' = grow (redrawn w p.d) p.os := by
    intro w hw d os
    have := number_on f.toNat (by omega) w hw d os
    rw [show ((f.toNat : Nat) : Int) = f by omega] at this
    rw [hF]; exact this
  have wt : IntKind.u32.wrap t = t := by rw [IntKind.wrap_u32]; omega
  have wf : IntKind.u32.wrap f = f := by rw [IntKind.wrap_u32]; omega
  have HN := Lib.hid hN
  have HO := Lib.hid ok
  have HX := Lib.hid hX
  have HS := Lib.hid (And.intro hS (And.intro hK (And.intro hT hF)))
  clear hN ok hX hS hK hT hF
  have done1 : ∀ (q : List UInt8 × Int) (R : ByteArray), M.line (c, t, f, k) = q → R = ⟨q.1.toArray⟩ → Ending.returned (.tuple #[.string R, .int .i64 q.2]) = .returned (.tuple #[.string ⟨X.1.toArray⟩, .int .i64 X.2]) := by
    intro q R h1 h2
    rw [HX.out, h1, h2]
  have Hd := Lib.hid done1
  clear done1
  have hks : M.hasK c = true ∨ (M.hasK c = false ∧ (k != 0) = false) ∨ (M.hasK c = false ∧ (k != 0) = true) := by
    cases M.hasK c <;> cases (k != 0) <;> simp
  have hjs : M.jif c = true ∨ (M.jif c = false ∧ (t != 0) = false ∧ (f != 0) = false) ∨ (M.jif c = false ∧ (t != 0) = true) ∨ (M.jif c = false ∧ (t != 0) = false ∧ (f != 0) = true) := by
    cases M.jif c <;> cases (t != 0) <;> cases (f != 0) <;> simp
  rcases hks with hk | ⟨hk, y1⟩ | ⟨hk, y1⟩ <;> rcases hjs with hj | ⟨hj, y2, y3⟩ | ⟨hj, y2⟩ | ⟨hj, y2, y3⟩
  all_goals
    go_enter Tryd.func10, Tryd.ntmps10
    go_wp2_with (first
      | (go_at_call 21; refine (cN _).mono ?_; rintro e w1 ⟨rfl, hb⟩; obtain ⟨c0, c1, c2, c3, hB, hl⟩ := box4 hb; clear hb))
    have HK := Lib.hid (hask_on c t f k HO.out w1)
    have HJ := Lib.hid (hasj_on c t f k w1)
    rw [hk] at HK
    rw [hj] at HJ
    have k0 := cell_regrown c0
    have k1 := cell_regrown c1
    have k2 := cell_regrown c2
    have k3 := cell_regrown c3
    refine wp_region_quiet_below (by kernel_rfl) (by kernel_rfl) ?_
    repeat (quiet_step (first | exact HK.out _ _ | exact HJ.out _ _))
    refine wpQuiet_nil ?_
    intro w2 hw2
    have hb : Below w1.heap.size w1 w2 := by obtain ⟨⟨d, os⟩, rfl⟩ := hw2; exact below_regrown _ _ _
    obtain ⟨c0, c1, c2, c3, hB, hl⟩ := box_again c0 c1 c2 c3 hB hl hb
    clear hb hw2 k0 k1 k2 k3 HK HJ
  all_goals first
    | (go_wp2
       go_ret2
       exact ⟨Hd.out ([], 1) _ (line_bad hn (by simp [*])) rfl, hB.out⟩)
    | (go_wp2_with (first
        | (go_at_call 19; refine (cK _ (HN.out.below hB.out)).mono ?_; rintro e w3 ⟨rfl, hb⟩; obtain ⟨c0, c1, c2, c3, hB, hl⟩ := box_again c0 c1 c2 c3 hB hl hb; clear hb))
       go_ret2
       refine ⟨Hd.out _ _ (line_good hn (by simp [*])) ?_, hB.out⟩
       obtain ⟨rfl, rfl, rfl, rfl⟩ := HS.out
       apply M.bytes_ext
       simp [hk, hj])
    | skip
  · go_wp2_with (first
        | (go_at_call 19; refine (cK _ (HN.out.below hB.out)).mono ?_; rintro e w3 ⟨rfl, hb⟩; obtain ⟨c0, c1, c2, c3, hB, hl⟩ := box_again c0 c1 c2 c3 hB hl hb; clear hb))
    have HT := Lib.hid (cT w3 (HN.out.below hB.out))
    have HF := Lib.hid (cF w3 (HN.out.below hB.out))
    have k1 := cell_regrown c1
    have k2 := cell_regrown c2
    clear cT cF cK cN
    have n1 : ¬ 9223372036854775807 < 1 + T.size := by omega
    have n2 : ¬ 9223372036854775807 < 1 + T.size + 1 := by omega
    have n3 : ¬ 9223372036854775807 < 1 + T.size + 1 + F.size := by omega
    have n4 : ¬ 9223372036854775807 < S.size + (1 + T.size + 1 + F.size) := by omega
    have n5 : ¬ 9223372036854775807 < S.size + (1 + K.size) + (1 + T.size + 1 + F.size) := by omega
    refine wp_region_quiet_below (by kernel_rfl) (by kernel_rfl) ?_
    repeat (quiet_step (first | exact HT.out _ _ | exact HF.out _ _))
    refine wpQuiet_nil ?_
    intro w4 hw4
    have hb : Below w3.heap.size w3 w4 := by obtain ⟨⟨d, os⟩, rfl⟩ := hw4; exact below_regrown _ _ _
    have hB := stp hB hb
    clear hb hw4 k1 k2 HT HF
    go_wp2
    go_ret2
    refine ⟨Hd.out _ _ (line_good hn (by simp [*])) ?_, hB.out⟩
    obtain ⟨rfl, rfl, rfl, rfl⟩ := HS.out
    apply M.bytes_ext
    simp [hk, hj]
  · go_wp2_with fail
    have HT := Lib.hid (cT w2 (HN.out.below hB.out))
    have HF := Lib.hid (cF w2 (HN.out.below hB.out))
    have k1 := cell_regrown c1
    have k2 := cell_regrown c2
    clear cT cF cK cN
    have n1 : ¬ 9223372036854775807 < 1 + T.size := by omega
    have n2 : ¬ 9223372036854775807 < 1 + T.size + 1 := by omega
    have n3 : ¬ 9223372036854775807 < 1 + T.size + 1 + F.size := by omega
    have n4 : ¬ 9223372036854775807 < S.size + (1 + T.size + 1 + F.size) := by omega
    have n5 : ¬ 9223372036854775807 < S.size + (1 + K.size) + (1 + T.size + 1 + F.size) := by omega
    refine wp_region_quiet_below (by kernel_rfl) (by kernel_rfl) ?_
    repeat (quiet_step (first | exact HT.out _ _ | exact HF.out _ _))
    refine wpQuiet_nil ?_
    intro w4 hw4
    have hb : Below w2.heap.size w2 w4 := by obtain ⟨⟨d, os⟩, rfl⟩ := hw4; exact below_regrown _ _ _
    have hB := stp hB hb
    clear hb hw4 k1 k2 HT HF
    go_wp2
    go_ret2
    refine ⟨Hd.out _ _ (line_good hn (by simp [*])) ?_, hB.out⟩
    obtain ⟨rfl, rfl, rfl, rfl⟩ := HS.out
    apply M.bytes_ext
    simp [hk, hj]

set_option maxHeartbeats 1600000 in
set_option maxRecDepth 100000 in
theorem line_any (c t f k : Int) (ok : M.okI (c, t, f, k)) (w : World) (hN : Nm w) :
    Calls Tryd.prog 10 #[.agg #[.int .u16 c, .int .u8 t, .int .u8 f, .int .u32 k]] w fun e w' => e = .returned (.tuple #[.string ⟨(M.line (c, t, f, k)).1.toArray⟩, .int .i64 (M.line (c, t, f, k)).2]) ∧ Below w.heap.size w w' := by
  by_cases hn : M.name c = []
  · have e : M.line (c, t, f, k) = ([], 6) := by unfold M.line; rw [if_pos hn]
    rw [e]
    go_enter Tryd.func10, Tryd.ntmps10
    go_wp2_with (first
      | (go_at_call 21; refine (name_any c _).mono ?_; rintro e w' ⟨rfl, hb⟩; obtain ⟨c0, c1, c2, c3, hB, hl⟩ := box4 hb; clear hb; rw [hn]))
    go_ret2
    exact ⟨rfl, hB.out⟩
  · exact line_named c t f k ok hn w hN
end Go.Proofs.YtapjjpjiggjlfaaDoor.B
