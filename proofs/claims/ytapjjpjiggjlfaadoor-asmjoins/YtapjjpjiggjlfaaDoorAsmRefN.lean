/-
  The document's own line of a code that is there: a walk over the Go text for each way.
-/
import Derived.Test.YtapjjpjiggjlfaaDoorAsmRefL
namespace Go.Proofs.YtapjjpjiggjlfaaDoor.B
open Go.ChangeShapes Go.WideShapes Go.ChangeAt Go.RowKit
open Go.Sort hiding Below
set_option linter.unusedVariables false

set_option maxHeartbeats 1600000 in
set_option maxRecDepth 100000 in
theorem rl00 (c t f k : Int) (S KK T F : ByteArray) (hS6 : S.size ≤ 6) (hSn : (S.toList == []) = false) (hK6 : KK.size ≤ 20) (hT6 : T.size ≤ 20) (hF6 : F.size ≤ 20) (o1 : 0 ≤ c) (o2 : c < 65536) (wt : IntKind.u32.wrap t = t) (wf : IntKind.u32.wrap f = f)
    (cN : ∀ w, Calls Tryd.prog 24 #[.int .u16 c] w fun e w' => e = .returned (.string S) ∧ Below w.heap.size w w')
    (cK : ∀ w, Calls Tryd.prog 20 #[.int .u32 k] w fun e w' => e = .returned (.string KK) ∧ Below w.heap.size w w')
    (cT : ∀ w, Calls Tryd.prog 20 #[.int .u32 t] w fun e w' => e = .returned (.string T) ∧ Below w.heap.size w w')
    (cF : ∀ w, Calls Tryd.prog 20 #[.int .u32 f] w fun e w' => e = .returned (.string F) ∧ Below w.heap.size w w')
    (hk : M.hasK c = true) (hj : M.jif c = true) (w : World) :
    Calls Tryd.prog 11 #[.agg #[.int .u16 c, .int .u8 t, .int .u8 f, .int .u32 k]] w fun e w' => e = .returned (.tuple #[.string ((S ++ ({ data := #[32] } ++ KK)) ++ ({ data := #[32] } ++ T ++ { data := #[32] } ++ F)), .int .i64 0]) ∧ Below w.heap.size w w' := by
  have cJ : ∀ w, Calls Tryd.prog 25 #[.int .u16 c] w fun e w' => e = .returned (.int .i64 (M.kind c)) ∧ Below w.heap.size w w' := fun w => rkind_any c o1 o2 w
  have cH : ∀ w, Calls Tryd.prog 26 #[.int .u16 c] w fun e w' => e = .returned (.bool (M.hasK c)) ∧ Below w.heap.size w w' := fun w => rhask_any c o1 o2 w
  rw [hk] at cH
  have hj' := hj
  unfold M.jif at hj'
  clear hj hk
  go_enter Tryd.func11, Tryd.ntmps11
  go_wp2_with (first
    | (go_at_call 24; refine (cN _).mono ?_; rintro e w1 ⟨rfl, hb⟩; obtain ⟨c0, c1, c2, c3, hB, hl⟩ := box4 hb; clear hb)
    | (go_at_call 25; refine (cJ _).mono ?_; rintro e w2 ⟨rfl, hb⟩; obtain ⟨c0, c1, c2, c3, hB, hl⟩ := box_again c0 c1 c2 c3 hB hl hb; clear hb)
    | (go_at_call 26; refine (cH _).mono ?_; rintro e w2 ⟨rfl, hb⟩; obtain ⟨c0, c1, c2, c3, hB, hl⟩ := box_again c0 c1 c2 c3 hB hl hb; clear hb)
    | (go_at_call 20; refine (cK _).mono ?_; rintro e w2 ⟨rfl, hb⟩; obtain ⟨c0, c1, c2, c3, hB, hl⟩ := box_again c0 c1 c2 c3 hB hl hb; clear hb))
  have HT : Hid (∀ d os, Calls Tryd.prog 20 #[.int .u32 t] (grow (redrawn w2 d) os) fun e w'' => e = .returned (.string T) ∧ ∃ p : Regrown, w'' = grow (redrawn w2 p.d) p.os) := fun d os => Calls.regrown_of (cT _)
  have HF : Hid (∀ d os, Calls Tryd.prog 20 #[.int .u32 f] (grow (redrawn w2 d) os) fun e w'' => e = .returned (.string F) ∧ ∃ p : Regrown, w'' = grow (redrawn w2 p.d) p.os) := fun d os => Calls.regrown_of (cF _)
  have k1 := cell_regrown c1
  have k2 := cell_regrown c2
  have n1 : ¬ 9223372036854775807 < 1 + T.size := by omega
  have n2 : ¬ 9223372036854775807 < 1 + T.size + 1 := by omega
  have n3 : ¬ 9223372036854775807 < 1 + T.size + 1 + F.size := by omega
  have n4 : ¬ 9223372036854775807 < S.size + (1 + T.size + 1 + F.size) := by omega
  have n5 : ¬ 9223372036854775807 < S.size + (1 + KK.size) + (1 + T.size + 1 + F.size) := by omega
  clear cT cF cN cJ cH
  refine wp_region_quiet_below (by kernel_rfl) (by kernel_rfl) ?_
  repeat (quiet_step (first | (go_at_call_of 20 (Value.int IntKind.u32 t); exact HT.out _ _) | (go_at_call_of 20 (Value.int IntKind.u32 f); exact HF.out _ _)))
  refine wpQuiet_nil ?_
  intro w4 hw4
  have hb : Below w2.heap.size w2 w4 := by obtain ⟨⟨d, os⟩, rfl⟩ := hw4; exact below_regrown _ _ _
  have hB := stp hB hb
  clear hb hw4 k1 k2 HT HF
  go_wp2
  go_ret2
  exact ⟨rfl, hB.out⟩
set_option maxHeartbeats 1600000 in
set_option maxRecDepth 100000 in
theorem rl01 (c t f k : Int) (S KK T F : ByteArray) (hS6 : S.size ≤ 6) (hSn : (S.toList == []) = false) (hK6 : KK.size ≤ 20) (hT6 : T.size ≤ 20) (hF6 : F.size ≤ 20) (o1 : 0 ≤ c) (o2 : c < 65536) (wt : IntKind.u32.wrap t = t) (wf : IntKind.u32.wrap f = f)
    (cN : ∀ w, Calls Tryd.prog 24 #[.int .u16 c] w fun e w' => e = .returned (.string S) ∧ Below w.heap.size w w')
    (cK : ∀ w, Calls Tryd.prog 20 #[.int .u32 k] w fun e w' => e = .returned (.string KK) ∧ Below w.heap.size w w')
    (cT : ∀ w, Calls Tryd.prog 20 #[.int .u32 t] w fun e w' => e = .returned (.string T) ∧ Below w.heap.size w w')
    (cF : ∀ w, Calls Tryd.prog 20 #[.int .u32 f] w fun e w' => e = .returned (.string F) ∧ Below w.heap.size w w')
    (hk : M.hasK c = true) (hj : M.jif c = false) (y2 : (t != 0) = false) (y3 : (f != 0) = false) (w : World) :
    Calls Tryd.prog 11 #[.agg #[.int .u16 c, .int .u8 t, .int .u8 f, .int .u32 k]] w fun e w' => e = .returned (.tuple #[.string (S ++ ({ data := #[32] } ++ KK)), .int .i64 0]) ∧ Below w.heap.size w w' := by
  have cJ : ∀ w, Calls Tryd.prog 25 #[.int .u16 c] w fun e w' => e = .returned (.int .i64 (M.kind c)) ∧ Below w.heap.size w w' := fun w => rkind_any c o1 o2 w
  have cH : ∀ w, Calls Tryd.prog 26 #[.int .u16 c] w fun e w' => e = .returned (.bool (M.hasK c)) ∧ Below w.heap.size w w' := fun w => rhask_any c o1 o2 w
  rw [hk] at cH
  have hj' := hj
  unfold M.jif at hj'
  clear hj hk
  clear cT cF
  go_enter Tryd.func11, Tryd.ntmps11
  go_wp2_with (first
    | (go_at_call 24; refine (cN _).mono ?_; rintro e w1 ⟨rfl, hb⟩; obtain ⟨c0, c1, c2, c3, hB, hl⟩ := box4 hb; clear hb)
    | (go_at_call 25; refine (cJ _).mono ?_; rintro e w2 ⟨rfl, hb⟩; obtain ⟨c0, c1, c2, c3, hB, hl⟩ := box_again c0 c1 c2 c3 hB hl hb; clear hb)
    | (go_at_call 26; refine (cH _).mono ?_; rintro e w2 ⟨rfl, hb⟩; obtain ⟨c0, c1, c2, c3, hB, hl⟩ := box_again c0 c1 c2 c3 hB hl hb; clear hb)
    | (go_at_call 20; refine (cK _).mono ?_; rintro e w2 ⟨rfl, hb⟩; obtain ⟨c0, c1, c2, c3, hB, hl⟩ := box_again c0 c1 c2 c3 hB hl hb; clear hb))
  go_ret2
  exact ⟨rfl, hB.out⟩
set_option maxHeartbeats 1600000 in
set_option maxRecDepth 100000 in
theorem rl02 (c t f k : Int) (S KK T F : ByteArray) (hS6 : S.size ≤ 6) (hSn : (S.toList == []) = false) (hK6 : KK.size ≤ 20) (hT6 : T.size ≤ 20) (hF6 : F.size ≤ 20) (o1 : 0 ≤ c) (o2 : c < 65536) (wt : IntKind.u32.wrap t = t) (wf : IntKind.u32.wrap f = f)
    (cN : ∀ w, Calls Tryd.prog 24 #[.int .u16 c] w fun e w' => e = .returned (.string S) ∧ Below w.heap.size w w')
    (cK : ∀ w, Calls Tryd.prog 20 #[.int .u32 k] w fun e w' => e = .returned (.string KK) ∧ Below w.heap.size w w')
    (cT : ∀ w, Calls Tryd.prog 20 #[.int .u32 t] w fun e w' => e = .returned (.string T) ∧ Below w.heap.size w w')
    (cF : ∀ w, Calls Tryd.prog 20 #[.int .u32 f] w fun e w' => e = .returned (.string F) ∧ Below w.heap.size w w')
    (hk : M.hasK c = true) (hj : M.jif c = false) (y2 : (t != 0) = true) (w : World) :
    Calls Tryd.prog 11 #[.agg #[.int .u16 c, .int .u8 t, .int .u8 f, .int .u32 k]] w fun e w' => e = .returned (.tuple #[.string (⟨#[]⟩), .int .i64 1]) ∧ Below w.heap.size w w' := by
  have cJ : ∀ w, Calls Tryd.prog 25 #[.int .u16 c] w fun e w' => e = .returned (.int .i64 (M.kind c)) ∧ Below w.heap.size w w' := fun w => rkind_any c o1 o2 w
  have cH : ∀ w, Calls Tryd.prog 26 #[.int .u16 c] w fun e w' => e = .returned (.bool (M.hasK c)) ∧ Below w.heap.size w w' := fun w => rhask_any c o1 o2 w
  rw [hk] at cH
  have hj' := hj
  unfold M.jif at hj'
  clear hj hk
  clear cT cF
  go_enter Tryd.func11, Tryd.ntmps11
  go_wp2_with (first
    | (go_at_call 24; refine (cN _).mono ?_; rintro e w1 ⟨rfl, hb⟩; obtain ⟨c0, c1, c2, c3, hB, hl⟩ := box4 hb; clear hb)
    | (go_at_call 25; refine (cJ _).mono ?_; rintro e w2 ⟨rfl, hb⟩; obtain ⟨c0, c1, c2, c3, hB, hl⟩ := box_again c0 c1 c2 c3 hB hl hb; clear hb)
    | (go_at_call 26; refine (cH _).mono ?_; rintro e w2 ⟨rfl, hb⟩; obtain ⟨c0, c1, c2, c3, hB, hl⟩ := box_again c0 c1 c2 c3 hB hl hb; clear hb)
    | (go_at_call 20; refine (cK _).mono ?_; rintro e w2 ⟨rfl, hb⟩; obtain ⟨c0, c1, c2, c3, hB, hl⟩ := box_again c0 c1 c2 c3 hB hl hb; clear hb))
  go_ret2
  exact ⟨rfl, hB.out⟩
set_option maxHeartbeats 1600000 in
set_option maxRecDepth 100000 in
theorem rl03 (c t f k : Int) (S KK T F : ByteArray) (hS6 : S.size ≤ 6) (hSn : (S.toList == []) = false) (hK6 : KK.size ≤ 20) (hT6 : T.size ≤ 20) (hF6 : F.size ≤ 20) (o1 : 0 ≤ c) (o2 : c < 65536) (wt : IntKind.u32.wrap t = t) (wf : IntKind.u32.wrap f = f)
    (cN : ∀ w, Calls Tryd.prog 24 #[.int .u16 c] w fun e w' => e = .returned (.string S) ∧ Below w.heap.size w w')
    (cK : ∀ w, Calls Tryd.prog 20 #[.int .u32 k] w fun e w' => e = .returned (.string KK) ∧ Below w.heap.size w w')
    (cT : ∀ w, Calls Tryd.prog 20 #[.int .u32 t] w fun e w' => e = .returned (.string T) ∧ Below w.heap.size w w')
    (cF : ∀ w, Calls Tryd.prog 20 #[.int .u32 f] w fun e w' => e = .returned (.string F) ∧ Below w.heap.size w w')
    (hk : M.hasK c = true) (hj : M.jif c = false) (y2 : (t != 0) = false) (y3 : (f != 0) = true) (w : World) :
    Calls Tryd.prog 11 #[.agg #[.int .u16 c, .int .u8 t, .int .u8 f, .int .u32 k]] w fun e w' => e = .returned (.tuple #[.string (⟨#[]⟩), .int .i64 1]) ∧ Below w.heap.size w w' := by
  have cJ : ∀ w, Calls Tryd.prog 25 #[.int .u16 c] w fun e w' => e = .returned (.int .i64 (M.kind c)) ∧ Below w.heap.size w w' := fun w => rkind_any c o1 o2 w
  have cH : ∀ w, Calls Tryd.prog 26 #[.int .u16 c] w fun e w' => e = .returned (.bool (M.hasK c)) ∧ Below w.heap.size w w' := fun w => rhask_any c o1 o2 w
  rw [hk] at cH
  have hj' := hj
  unfold M.jif at hj'
  clear hj hk
  clear cT cF
  go_enter Tryd.func11, Tryd.ntmps11
  go_wp2_with (first
    | (go_at_call 24; refine (cN _).mono ?_; rintro e w1 ⟨rfl, hb⟩; obtain ⟨c0, c1, c2, c3, hB, hl⟩ := box4 hb; clear hb)
    | (go_at_call 25; refine (cJ _).mono ?_; rintro e w2 ⟨rfl, hb⟩; obtain ⟨c0, c1, c2, c3, hB, hl⟩ := box_again c0 c1 c2 c3 hB hl hb; clear hb)
    | (go_at_call 26; refine (cH _).mono ?_; rintro e w2 ⟨rfl, hb⟩; obtain ⟨c0, c1, c2, c3, hB, hl⟩ := box_again c0 c1 c2 c3 hB hl hb; clear hb)
    | (go_at_call 20; refine (cK _).mono ?_; rintro e w2 ⟨rfl, hb⟩; obtain ⟨c0, c1, c2, c3, hB, hl⟩ := box_again c0 c1 c2 c3 hB hl hb; clear hb))
  go_ret2
  exact ⟨rfl, hB.out⟩
set_option maxHeartbeats 1600000 in
set_option maxRecDepth 100000 in
theorem rl10 (c t f k : Int) (S KK T F : ByteArray) (hS6 : S.size ≤ 6) (hSn : (S.toList == []) = false) (hK6 : KK.size ≤ 20) (hT6 : T.size ≤ 20) (hF6 : F.size ≤ 20) (o1 : 0 ≤ c) (o2 : c < 65536) (wt : IntKind.u32.wrap t = t) (wf : IntKind.u32.wrap f = f)
    (cN : ∀ w, Calls Tryd.prog 24 #[.int .u16 c] w fun e w' => e = .returned (.string S) ∧ Below w.heap.size w w')
    (cK : ∀ w, Calls Tryd.prog 20 #[.int .u32 k] w fun e w' => e = .returned (.string KK) ∧ Below w.heap.size w w')
    (cT : ∀ w, Calls Tryd.prog 20 #[.int .u32 t] w fun e w' => e = .returned (.string T) ∧ Below w.heap.size w w')
    (cF : ∀ w, Calls Tryd.prog 20 #[.int .u32 f] w fun e w' => e = .returned (.string F) ∧ Below w.heap.size w w')
    (hk : M.hasK c = false) (y1 : (k != 0) = false) (hj : M.jif c = true) (w : World) :
    Calls Tryd.prog 11 #[.agg #[.int .u16 c, .int .u8 t, .int .u8 f, .int .u32 k]] w fun e w' => e = .returned (.tuple #[.string (S ++ ({ data := #[32] } ++ T ++ { data := #[32] } ++ F)), .int .i64 0]) ∧ Below w.heap.size w w' := by
  have cJ : ∀ w, Calls Tryd.prog 25 #[.int .u16 c] w fun e w' => e = .returned (.int .i64 (M.kind c)) ∧ Below w.heap.size w w' := fun w => rkind_any c o1 o2 w
  have cH : ∀ w, Calls Tryd.prog 26 #[.int .u16 c] w fun e w' => e = .returned (.bool (M.hasK c)) ∧ Below w.heap.size w w' := fun w => rhask_any c o1 o2 w
  rw [hk] at cH
  have hj' := hj
  unfold M.jif at hj'
  clear hj hk
  clear cK
  go_enter Tryd.func11, Tryd.ntmps11
  go_wp2_with (first
    | (go_at_call 24; refine (cN _).mono ?_; rintro e w1 ⟨rfl, hb⟩; obtain ⟨c0, c1, c2, c3, hB, hl⟩ := box4 hb; clear hb)
    | (go_at_call 25; refine (cJ _).mono ?_; rintro e w2 ⟨rfl, hb⟩; obtain ⟨c0, c1, c2, c3, hB, hl⟩ := box_again c0 c1 c2 c3 hB hl hb; clear hb)
    | (go_at_call 26; refine (cH _).mono ?_; rintro e w2 ⟨rfl, hb⟩; obtain ⟨c0, c1, c2, c3, hB, hl⟩ := box_again c0 c1 c2 c3 hB hl hb; clear hb))
  have HT : Hid (∀ d os, Calls Tryd.prog 20 #[.int .u32 t] (grow (redrawn w2 d) os) fun e w'' => e = .returned (.string T) ∧ ∃ p : Regrown, w'' = grow (redrawn w2 p.d) p.os) := fun d os => Calls.regrown_of (cT _)
  have HF : Hid (∀ d os, Calls Tryd.prog 20 #[.int .u32 f] (grow (redrawn w2 d) os) fun e w'' => e = .returned (.string F) ∧ ∃ p : Regrown, w'' = grow (redrawn w2 p.d) p.os) := fun d os => Calls.regrown_of (cF _)
  have k1 := cell_regrown c1
  have k2 := cell_regrown c2
  have n1 : ¬ 9223372036854775807 < 1 + T.size := by omega
  have n2 : ¬ 9223372036854775807 < 1 + T.size + 1 := by omega
  have n3 : ¬ 9223372036854775807 < 1 + T.size + 1 + F.size := by omega
  have n4 : ¬ 9223372036854775807 < S.size + (1 + T.size + 1 + F.size) := by omega
  have n5 : ¬ 9223372036854775807 < S.size + (1 + KK.size) + (1 + T.size + 1 + F.size) := by omega
  clear cT cF cN cJ cH
  refine wp_region_quiet_below (by kernel_rfl) (by kernel_rfl) ?_
  repeat (quiet_step (first | (go_at_call_of 20 (Value.int IntKind.u32 t); exact HT.out _ _) | (go_at_call_of 20 (Value.int IntKind.u32 f); exact HF.out _ _)))
  refine wpQuiet_nil ?_
  intro w4 hw4
  have hb : Below w2.heap.size w2 w4 := by obtain ⟨⟨d, os⟩, rfl⟩ := hw4; exact below_regrown _ _ _
  have hB := stp hB hb
  clear hb hw4 k1 k2 HT HF
  go_wp2
  go_ret2
  exact ⟨rfl, hB.out⟩
set_option maxHeartbeats 1600000 in
set_option maxRecDepth 100000 in
theorem rl11 (c t f k : Int) (S KK T F : ByteArray) (hS6 : S.size ≤ 6) (hSn : (S.toList == []) = false) (hK6 : KK.size ≤ 20) (hT6 : T.size ≤ 20) (hF6 : F.size ≤ 20) (o1 : 0 ≤ c) (o2 : c < 65536) (wt : IntKind.u32.wrap t = t) (wf : IntKind.u32.wrap f = f)
    (cN : ∀ w, Calls Tryd.prog 24 #[.int .u16 c] w fun e w' => e = .returned (.string S) ∧ Below w.heap.size w w')
    (cK : ∀ w, Calls Tryd.prog 20 #[.int .u32 k] w fun e w' => e = .returned (.string KK) ∧ Below w.heap.size w w')
    (cT : ∀ w, Calls Tryd.prog 20 #[.int .u32 t] w fun e w' => e = .returned (.string T) ∧ Below w.heap.size w w')
    (cF : ∀ w, Calls Tryd.prog 20 #[.int .u32 f] w fun e w' => e = .returned (.string F) ∧ Below w.heap.size w w')
    (hk : M.hasK c = false) (y1 : (k != 0) = false) (hj : M.jif c = false) (y2 : (t != 0) = false) (y3 : (f != 0) = false) (w : World) :
    Calls Tryd.prog 11 #[.agg #[.int .u16 c, .int .u8 t, .int .u8 f, .int .u32 k]] w fun e w' => e = .returned (.tuple #[.string (S), .int .i64 0]) ∧ Below w.heap.size w w' := by
  have cJ : ∀ w, Calls Tryd.prog 25 #[.int .u16 c] w fun e w' => e = .returned (.int .i64 (M.kind c)) ∧ Below w.heap.size w w' := fun w => rkind_any c o1 o2 w
  have cH : ∀ w, Calls Tryd.prog 26 #[.int .u16 c] w fun e w' => e = .returned (.bool (M.hasK c)) ∧ Below w.heap.size w w' := fun w => rhask_any c o1 o2 w
  rw [hk] at cH
  have hj' := hj
  unfold M.jif at hj'
  clear hj hk
  clear cT cF
  clear cK
  go_enter Tryd.func11, Tryd.ntmps11
  go_wp2_with (first
    | (go_at_call 24; refine (cN _).mono ?_; rintro e w1 ⟨rfl, hb⟩; obtain ⟨c0, c1, c2, c3, hB, hl⟩ := box4 hb; clear hb)
    | (go_at_call 25; refine (cJ _).mono ?_; rintro e w2 ⟨rfl, hb⟩; obtain ⟨c0, c1, c2, c3, hB, hl⟩ := box_again c0 c1 c2 c3 hB hl hb; clear hb)
    | (go_at_call 26; refine (cH _).mono ?_; rintro e w2 ⟨rfl, hb⟩; obtain ⟨c0, c1, c2, c3, hB, hl⟩ := box_again c0 c1 c2 c3 hB hl hb; clear hb))
  go_ret2
  exact ⟨rfl, hB.out⟩
set_option maxHeartbeats 1600000 in
set_option maxRecDepth 100000 in
theorem rl12 (c t f k : Int) (S KK T F : ByteArray) (hS6 : S.size ≤ 6) (hSn : (S.toList == []) = false) (hK6 : KK.size ≤ 20) (hT6 : T.size ≤ 20) (hF6 : F.size ≤ 20) (o1 : 0 ≤ c) (o2 : c < 65536) (wt : IntKind.u32.wrap t = t) (wf : IntKind.u32.wrap f = f)
    (cN : ∀ w, Calls Tryd.prog 24 #[.int .u16 c] w fun e w' => e = .returned (.string S) ∧ Below w.heap.size w w')
    (cK : ∀ w, Calls Tryd.prog 20 #[.int .u32 k] w fun e w' => e = .returned (.string KK) ∧ Below w.heap.size w w')
    (cT : ∀ w, Calls Tryd.prog 20 #[.int .u32 t] w fun e w' => e = .returned (.string T) ∧ Below w.heap.size w w')
    (cF : ∀ w, Calls Tryd.prog 20 #[.int .u32 f] w fun e w' => e = .returned (.string F) ∧ Below w.heap.size w w')
    (hk : M.hasK c = false) (y1 : (k != 0) = false) (hj : M.jif c = false) (y2 : (t != 0) = true) (w : World) :
    Calls Tryd.prog 11 #[.agg #[.int .u16 c, .int .u8 t, .int .u8 f, .int .u32 k]] w fun e w' => e = .returned (.tuple #[.string (⟨#[]⟩), .int .i64 1]) ∧ Below w.heap.size w w' := by
  have cJ : ∀ w, Calls Tryd.prog 25 #[.int .u16 c] w fun e w' => e = .returned (.int .i64 (M.kind c)) ∧ Below w.heap.size w w' := fun w => rkind_any c o1 o2 w
  have cH : ∀ w, Calls Tryd.prog 26 #[.int .u16 c] w fun e w' => e = .returned (.bool (M.hasK c)) ∧ Below w.heap.size w w' := fun w => rhask_any c o1 o2 w
  rw [hk] at cH
  have hj' := hj
  unfold M.jif at hj'
  clear hj hk
  clear cT cF
  clear cK
  go_enter Tryd.func11, Tryd.ntmps11
  go_wp2_with (first
    | (go_at_call 24; refine (cN _).mono ?_; rintro e w1 ⟨rfl, hb⟩; obtain ⟨c0, c1, c2, c3, hB, hl⟩ := box4 hb; clear hb)
    | (go_at_call 25; refine (cJ _).mono ?_; rintro e w2 ⟨rfl, hb⟩; obtain ⟨c0, c1, c2, c3, hB, hl⟩ := box_again c0 c1 c2 c3 hB hl hb; clear hb)
    | (go_at_call 26; refine (cH _).mono ?_; rintro e w2 ⟨rfl, hb⟩; obtain ⟨c0, c1, c2, c3, hB, hl⟩ := box_again c0 c1 c2 c3 hB hl hb; clear hb))
  go_ret2
  exact ⟨rfl, hB.out⟩
set_option maxHeartbeats 1600000 in
set_option maxRecDepth 100000 in
theorem rl13 (c t f k : Int) (S KK T F : ByteArray) (hS6 : S.size ≤ 6) (hSn : (S.toList == []) = false) (hK6 : KK.size ≤ 20) (hT6 : T.size ≤ 20) (hF6 : F.size ≤ 20) (o1 : 0 ≤ c) (o2 : c < 65536) (wt : IntKind.u32.wrap t = t) (wf : IntKind.u32.wrap f = f)
    (cN : ∀ w, Calls Tryd.prog 24 #[.int .u16 c] w fun e w' => e = .returned (.string S) ∧ Below w.heap.size w w')
    (cK : ∀ w, Calls Tryd.prog 20 #[.int .u32 k] w fun e w' => e = .returned (.string KK) ∧ Below w.heap.size w w')
    (cT : ∀ w, Calls Tryd.prog 20 #[.int .u32 t] w fun e w' => e = .returned (.string T) ∧ Below w.heap.size w w')
    (cF : ∀ w, Calls Tryd.prog 20 #[.int .u32 f] w fun e w' => e = .returned (.string F) ∧ Below w.heap.size w w')
    (hk : M.hasK c = false) (y1 : (k != 0) = false) (hj : M.jif c = false) (y2 : (t != 0) = false) (y3 : (f != 0) = true) (w : World) :
    Calls Tryd.prog 11 #[.agg #[.int .u16 c, .int .u8 t, .int .u8 f, .int .u32 k]] w fun e w' => e = .returned (.tuple #[.string (⟨#[]⟩), .int .i64 1]) ∧ Below w.heap.size w w' := by
  have cJ : ∀ w, Calls Tryd.prog 25 #[.int .u16 c] w fun e w' => e = .returned (.int .i64 (M.kind c)) ∧ Below w.heap.size w w' := fun w => rkind_any c o1 o2 w
  have cH : ∀ w, Calls Tryd.prog 26 #[.int .u16 c] w fun e w' => e = .returned (.bool (M.hasK c)) ∧ Below w.heap.size w w' := fun w => rhask_any c o1 o2 w
  rw [hk] at cH
  have hj' := hj
  unfold M.jif at hj'
  clear hj hk
  clear cT cF
  clear cK
  go_enter Tryd.func11, Tryd.ntmps11
  go_wp2_with (first
    | (go_at_call 24; refine (cN _).mono ?_; rintro e w1 ⟨rfl, hb⟩; obtain ⟨c0, c1, c2, c3, hB, hl⟩ := box4 hb; clear hb)
    | (go_at_call 25; refine (cJ _).mono ?_; rintro e w2 ⟨rfl, hb⟩; obtain ⟨c0, c1, c2, c3, hB, hl⟩ := box_again c0 c1 c2 c3 hB hl hb; clear hb)
    | (go_at_call 26; refine (cH _).mono ?_; rintro e w2 ⟨rfl, hb⟩; obtain ⟨c0, c1, c2, c3, hB, hl⟩ := box_again c0 c1 c2 c3 hB hl hb; clear hb))
  go_ret2
  exact ⟨rfl, hB.out⟩
set_option maxHeartbeats 1600000 in
set_option maxRecDepth 100000 in
theorem rl20 (c t f k : Int) (S KK T F : ByteArray) (hS6 : S.size ≤ 6) (hSn : (S.toList == []) = false) (hK6 : KK.size ≤ 20) (hT6 : T.size ≤ 20) (hF6 : F.size ≤ 20) (o1 : 0 ≤ c) (o2 : c < 65536) (wt : IntKind.u32.wrap t = t) (wf : IntKind.u32.wrap f = f)
    (cN : ∀ w, Calls Tryd.prog 24 #[.int .u16 c] w fun e w' => e = .returned (.string S) ∧ Below w.heap.size w w')
    (cK : ∀ w, Calls Tryd.prog 20 #[.int .u32 k] w fun e w' => e = .returned (.string KK) ∧ Below w.heap.size w w')
    (cT : ∀ w, Calls Tryd.prog 20 #[.int .u32 t] w fun e w' => e = .returned (.string T) ∧ Below w.heap.size w w')
    (cF : ∀ w, Calls Tryd.prog 20 #[.int .u32 f] w fun e w' => e = .returned (.string F) ∧ Below w.heap.size w w')
    (hk : M.hasK c = false) (y1 : (k != 0) = true) (hj : M.jif c = true) (w : World) :
    Calls Tryd.prog 11 #[.agg #[.int .u16 c, .int .u8 t, .int .u8 f, .int .u32 k]] w fun e w' => e = .returned (.tuple #[.string (⟨#[]⟩), .int .i64 1]) ∧ Below w.heap.size w w' := by
  have cJ : ∀ w, Calls Tryd.prog 25 #[.int .u16 c] w fun e w' => e = .returned (.int .i64 (M.kind c)) ∧ Below w.heap.size w w' := fun w => rkind_any c o1 o2 w
  have cH : ∀ w, Calls Tryd.prog 26 #[.int .u16 c] w fun e w' => e = .returned (.bool (M.hasK c)) ∧ Below w.heap.size w w' := fun w => rhask_any c o1 o2 w
  rw [hk] at cH
  have hj' := hj
  unfold M.jif at hj'
  clear hj hk
  clear cK
  go_enter Tryd.func11, Tryd.ntmps11
  go_wp2_with (first
    | (go_at_call 24; refine (cN _).mono ?_; rintro e w1 ⟨rfl, hb⟩; obtain ⟨c0, c1, c2, c3, hB, hl⟩ := box4 hb; clear hb)
    | (go_at_call 25; refine (cJ _).mono ?_; rintro e w2 ⟨rfl, hb⟩; obtain ⟨c0, c1, c2, c3, hB, hl⟩ := box_again c0 c1 c2 c3 hB hl hb; clear hb)
    | (go_at_call 26; refine (cH _).mono ?_; rintro e w2 ⟨rfl, hb⟩; obtain ⟨c0, c1, c2, c3, hB, hl⟩ := box_again c0 c1 c2 c3 hB hl hb; clear hb))
  go_ret2
  exact ⟨rfl, hB.out⟩
set_option maxHeartbeats 1600000 in
set_option maxRecDepth 100000 in
theorem rl21 (c t f k : Int) (S KK T F : ByteArray) (hS6 : S.size ≤ 6) (hSn : (S.toList == []) = false) (hK6 : KK.size ≤ 20) (hT6 : T.size ≤ 20) (hF6 : F.size ≤ 20) (o1 : 0 ≤ c) (o2 : c < 65536) (wt : IntKind.u32.wrap t = t) (wf : IntKind.u32.wrap f = f)
    (cN : ∀ w, Calls Tryd.prog 24 #[.int .u16 c] w fun e w' => e = .returned (.string S) ∧ Below w.heap.size w w')
    (cK : ∀ w, Calls Tryd.prog 20 #[.int .u32 k] w fun e w' => e = .returned (.string KK) ∧ Below w.heap.size w w')
    (cT : ∀ w, Calls Tryd.prog 20 #[.int .u32 t] w fun e w' => e = .returned (.string T) ∧ Below w.heap.size w w')
    (cF : ∀ w, Calls Tryd.prog 20 #[.int .u32 f] w fun e w' => e = .returned (.string F) ∧ Below w.heap.size w w')
    (hk : M.hasK c = false) (y1 : (k != 0) = true) (hj : M.jif c = false) (y2 : (t != 0) = false) (y3 : (f != 0) = false) (w : World) :
    Calls Tryd.prog 11 #[.agg #[.int .u16 c, .int .u8 t, .int .u8 f, .int .u32 k]] w fun e w' => e = .returned (.tuple #[.string (⟨#[]⟩), .int .i64 1]) ∧ Below w.heap.size w w' := by
  have cJ : ∀ w, Calls Tryd.prog 25 #[.int .u16 c] w fun e w' => e = .returned (.int .i64 (M.kind c)) ∧ Below w.heap.size w w' := fun w => rkind_any c o1 o2 w
  have cH : ∀ w, Calls Tryd.prog 26 #[.int .u16 c] w fun e w' => e = .returned (.bool (M.hasK c)) ∧ Below w.heap.size w w' := fun w => rhask_any c o1 o2 w
  rw [hk] at cH
  have hj' := hj
  unfold M.jif at hj'
  clear hj hk
  clear cT cF
  clear cK
  go_enter Tryd.func11, Tryd.ntmps11
  go_wp2_with (first
    | (go_at_call 24; refine (cN _).mono ?_; rintro e w1 ⟨rfl, hb⟩; obtain ⟨c0, c1, c2, c3, hB, hl⟩ := box4 hb; clear hb)
    | (go_at_call 25; refine (cJ _).mono ?_; rintro e w2 ⟨rfl, hb⟩; obtain ⟨c0, c1, c2, c3, hB, hl⟩ := box_again c0 c1 c2 c3 hB hl hb; clear hb)
    | (go_at_call 26; refine (cH _).mono ?_; rintro e w2 ⟨rfl, hb⟩; obtain ⟨c0, c1, c2, c3, hB, hl⟩ := box_again c0 c1 c2 c3 hB hl hb; clear hb))
  go_ret2
  exact ⟨rfl, hB.out⟩
set_option maxHeartbeats 1600000 in
set_option maxRecDepth 100000 in
theorem rl22 (c t f k : Int) (S KK T F : ByteArray) (hS6 : S.size ≤ 6) (hSn : (S.toList == []) = false) (hK6 : KK.size ≤ 20) (hT6 : T.size ≤ 20) (hF6 : F.size ≤ 20) (o1 : 0 ≤ c) (o2 : c < 65536) (wt : IntKind.u32.wrap t = t) (wf : IntKind.u32.wrap f = f)
    (cN : ∀ w, Calls Tryd.prog 24 #[.int .u16 c] w fun e w' => e = .returned (.string S) ∧ Below w.heap.size w w')
    (cK : ∀ w, Calls Tryd.prog 20 #[.int .u32 k] w fun e w' => e = .returned (.string KK) ∧ Below w.heap.size w w')
    (cT : ∀ w, Calls Tryd.prog 20 #[.int .u32 t] w fun e w' => e = .returned (.string T) ∧ Below w.heap.size w w')
    (cF : ∀ w, Calls Tryd.prog 20 #[.int .u32 f] w fun e w' => e = .returned (.string F) ∧ Below w.heap.size w w')
    (hk : M.hasK c = false) (y1 : (k != 0) = true) (hj : M.jif c = false) (y2 : (t != 0) = true) (w : World) :
    Calls Tryd.prog 11 #[.agg #[.int .u16 c, .int .u8 t, .int .u8 f, .int .u32 k]] w fun e w' => e = .returned (.tuple #[.string (⟨#[]⟩), .int .i64 1]) ∧ Below w.heap.size w w' := by
  have cJ : ∀ w, Calls Tryd.prog 25 #[.int .u16 c] w fun e w' => e = .returned (.int .i64 (M.kind c)) ∧ Below w.heap.size w w' := fun w => rkind_any c o1 o2 w
  have cH : ∀ w, Calls Tryd.prog 26 #[.int .u16 c] w fun e w' => e = .returned (.bool (M.hasK c)) ∧ Below w.heap.size w w' := fun w => rhask_any c o1 o2 w
  rw [hk] at cH
  have hj' := hj
  unfold M.jif at hj'
  clear hj hk
  clear cT cF
  clear cK
  go_enter Tryd.func11, Tryd.ntmps11
  go_wp2_with (first
    | (go_at_call 24; refine (cN _).mono ?_; rintro e w1 ⟨rfl, hb⟩; obtain ⟨c0, c1, c2, c3, hB, hl⟩ := box4 hb; clear hb)
    | (go_at_call 25; refine (cJ _).mono ?_; rintro e w2 ⟨rfl, hb⟩; obtain ⟨c0, c1, c2, c3, hB, hl⟩ := box_again c0 c1 c2 c3 hB hl hb; clear hb)
    | (go_at_call 26; refine (cH _).mono ?_; rintro e w2 ⟨rfl, hb⟩; obtain ⟨c0, c1, c2, c3, hB, hl⟩ := box_again c0 c1 c2 c3 hB hl hb; clear hb))
  go_ret2
  exact ⟨rfl, hB.out⟩
set_option maxHeartbeats 1600000 in
set_option maxRecDepth 100000 in
theorem rl23 (c t f k : Int) (S KK T F : ByteArray) (hS6 : S.size ≤ 6) (hSn : (S.toList == []) = false) (hK6 : KK.size ≤ 20) (hT6 : T.size ≤ 20) (hF6 : F.size ≤ 20) (o1 : 0 ≤ c) (o2 : c < 65536) (wt : IntKind.u32.wrap t = t) (wf : IntKind.u32.wrap f = f)
    (cN : ∀ w, Calls Tryd.prog 24 #[.int .u16 c] w fun e w' => e = .returned (.string S) ∧ Below w.heap.size w w')
    (cK : ∀ w, Calls Tryd.prog 20 #[.int .u32 k] w fun e w' => e = .returned (.string KK) ∧ Below w.heap.size w w')
    (cT : ∀ w, Calls Tryd.prog 20 #[.int .u32 t] w fun e w' => e = .returned (.string T) ∧ Below w.heap.size w w')
    (cF : ∀ w, Calls Tryd.prog 20 #[.int .u32 f] w fun e w' => e = .returned (.string F) ∧ Below w.heap.size w w')
    (hk : M.hasK c = false) (y1 : (k != 0) = true) (hj : M.jif c = false) (y2 : (t != 0) = false) (y3 : (f != 0) = true) (w : World) :
    Calls Tryd.prog 11 #[.agg #[.int .u16 c, .int .u8 t, .int .u8 f, .int .u32 k]] w fun e w' => e = .returned (.tuple #[.string (⟨#[]⟩), .int .i64 1]) ∧ Below w.heap.size w w' := by
  have cJ : ∀ w, Calls Tryd.prog 25 #[.int .u16 c] w fun e w' => e = .returned (.int .i64 (M.kind c)) ∧ Below w.heap.size w w' := fun w => rkind_any c o1 o2 w
  have cH : ∀ w, Calls Tryd.prog 26 #[.int .u16 c] w fun e w' => e = .returned (.bool (M.hasK c)) ∧ Below w.heap.size w w' := fun w => rhask_any c o1 o2 w
  rw [hk] at cH
  have hj' := hj
  unfold M.jif at hj'
  clear hj hk
  clear cT cF
  clear cK
  go_enter Tryd.func11, Tryd.ntmps11
  go_wp2_with (first
    | (go_at_call 24; refine (cN _).mono ?_; rintro e w1 ⟨rfl, hb⟩; obtain ⟨c0, c1, c2, c3, hB, hl⟩ := box4 hb; clear hb)
    | (go_at_call 25; refine (cJ _).mono ?_; rintro e w2 ⟨rfl, hb⟩; obtain ⟨c0, c1, c2, c3, hB, hl⟩ := box_again c0 c1 c2 c3 hB hl hb; clear hb)
    | (go_at_call 26; refine (cH _).mono ?_; rintro e w2 ⟨rfl, hb⟩; obtain ⟨c0, c1, c2, c3, hB, hl⟩ := box_again c0 c1 c2 c3 hB hl hb; clear hb))
  go_ret2
  exact ⟨rfl, hB.out⟩

set_option maxRecDepth 100000 in
theorem rline_any (c t f k : Int) (ok : M.okI (c, t, f, k)) (w : World) :
    Calls Tryd.prog 11 #[.agg #[.int .u16 c, .int .u8 t, .int .u8 f, .int .u32 k]] w fun e w' => e = .returned (.tuple #[.string ⟨(M.line (c, t, f, k)).1.toArray⟩, .int .i64 (M.line (c, t, f, k)).2]) ∧ Below w.heap.size w w' := by
  by_cases hn : M.name c = []
  · have e : M.line (c, t, f, k) = ([], 6) := by unfold M.line; rw [if_pos hn]
    rw [e]
    go_enter Tryd.func11, Tryd.ntmps11
    go_wp2_with (first
      | (go_at_call 24; refine (rname_any c _).mono ?_; rintro e w' ⟨rfl, hb⟩; obtain ⟨c0, c1, c2, c3, hB, hl⟩ := box4 hb; clear hb; rw [hn]))
    go_ret2
    exact ⟨rfl, hB.out⟩
  · obtain ⟨⟨o1, o2⟩, ⟨o3, o4⟩, ⟨o5, o6⟩, ⟨o7, o8⟩⟩ := ok
    simp only at o1 o2 o3 o4 o5 o6 o7 o8
    have hS6 : (⟨(M.name c).toArray⟩ : ByteArray).size ≤ 6 := by rw [bar]; exact M.keys_short _ (M.name_mem hn)
    have hSn : ((⟨(M.name c).toArray⟩ : ByteArray).toList == []) = false := by simpa [ByteArray.toList_mk] using hn
    have hK6 : ∀ x : Int, (⟨(M.num x.toNat).toArray⟩ : ByteArray).size ≤ 20 := fun x => by rw [bar]; exact M.num_len _
    have cN : ∀ x : Int, 0 ≤ x → x < 4294967296 → ∀ w, Calls Tryd.prog 20 #[.int .u32 x] w fun e w' => e = .returned (.string ⟨(M.num x.toNat).toArray⟩) ∧ Below w.heap.size w w' := by
      intro x h0 h1 w
      have := rnumber_any x.toNat (by omega) w
      rw [show ((x.toNat : Nat) : Int) = x by omega] at this
      exact this
    have wt : IntKind.u32.wrap t = t := by rw [IntKind.wrap_u32]; omega
    have wf : IntKind.u32.wrap f = f := by rw [IntKind.wrap_u32]; omega
    have fin : ∀ (R : ByteArray) (er : Int) (q : List UInt8 × Int), M.line (c, t, f, k) = q → R = ⟨q.1.toArray⟩ → er = q.2 → (Calls Tryd.prog 11 #[.agg #[.int .u16 c, .int .u8 t, .int .u8 f, .int .u32 k]] w fun e w' => e = .returned (.tuple #[.string R, .int .i64 er]) ∧ Below w.heap.size w w') → Calls Tryd.prog 11 #[.agg #[.int .u16 c, .int .u8 t, .int .u8 f, .int .u32 k]] w fun e w' => e = .returned (.tuple #[.string ⟨(M.line (c, t, f, k)).1.toArray⟩, .int .i64 (M.line (c, t, f, k)).2]) ∧ Below w.heap.size w w' := by
      intro R er q h1 h2 h3 h
      rw [h1, ← h2, ← h3]
      exact h
    have cNm := fun w => rname_any c w
    have hks : M.hasK c = true ∨ (M.hasK c = false ∧ (k != 0) = false) ∨ (M.hasK c = false ∧ (k != 0) = true) := by
      cases M.hasK c <;> cases (k != 0) <;> simp
    have hjs : M.jif c = true ∨ (M.jif c = false ∧ (t != 0) = false ∧ (f != 0) = false) ∨ (M.jif c = false ∧ (t != 0) = true) ∨ (M.jif c = false ∧ (t != 0) = false ∧ (f != 0) = true) := by
      cases M.jif c <;> cases (t != 0) <;> cases (f != 0) <;> simp
    have bb : (!M.hasK c && k != 0 || !M.jif c && (t != 0 || f != 0)) = true → M.line (c, t, f, k) = ([], 1) := line_bad hn
    have gg := fun h => line_good (c := c) (t := t) (f := f) (k := k) hn h
    rcases hks with hk | ⟨hk, y1⟩ | ⟨hk, y1⟩ <;> rcases hjs with hj | ⟨hj, y2, y3⟩ | ⟨hj, y2⟩ | ⟨hj, y2, y3⟩
    · exact fin _ _ _ (gg (by simp [hk, hj])) (M.bytes_ext (by simp [hk, hj])) rfl (rl00 c t f k _ _ _ _ hS6 hSn (hK6 k) (hK6 t) (hK6 f) o1 o2 wt wf cNm (cN k o7 o8) (cN t (by omega) (by omega)) (cN f (by omega) (by omega)) hk hj w)
    · exact fin _ _ _ (gg (by simp [hk, hj, y2, y3])) (M.bytes_ext (by simp [hk, hj])) rfl (rl01 c t f k _ _ _ _ hS6 hSn (hK6 k) (hK6 t) (hK6 f) o1 o2 wt wf cNm (cN k o7 o8) (cN t (by omega) (by omega)) (cN f (by omega) (by omega)) hk hj y2 y3 w)
    · exact fin _ _ _ (bb (by simp [hk, hj, y2])) rfl rfl (rl02 c t f k _ _ _ _ hS6 hSn (hK6 k) (hK6 t) (hK6 f) o1 o2 wt wf cNm (cN k o7 o8) (cN t (by omega) (by omega)) (cN f (by omega) (by omega)) hk hj y2 w)
    · exact fin _ _ _ (bb (by simp [hk, hj, y2, y3])) rfl rfl (rl03 c t f k _ _ _ _ hS6 hSn (hK6 k) (hK6 t) (hK6 f) o1 o2 wt wf cNm (cN k o7 o8) (cN t (by omega) (by omega)) (cN f (by omega) (by omega)) hk hj y2 y3 w)
    · exact fin _ _ _ (gg (by simp [hk, hj, y1])) (M.bytes_ext (by simp [hk, hj])) rfl (rl10 c t f k _ _ _ _ hS6 hSn (hK6 k) (hK6 t) (hK6 f) o1 o2 wt wf cNm (cN k o7 o8) (cN t (by omega) (by omega)) (cN f (by omega) (by omega)) hk y1 hj w)
    · exact fin _ _ _ (gg (by simp [hk, hj, y1, y2, y3])) (M.bytes_ext (by simp [hk, hj])) rfl (rl11 c t f k _ _ _ _ hS6 hSn (hK6 k) (hK6 t) (hK6 f) o1 o2 wt wf cNm (cN k o7 o8) (cN t (by omega) (by omega)) (cN f (by omega) (by omega)) hk y1 hj y2 y3 w)
    · exact fin _ _ _ (bb (by simp [hk, hj, y1, y2])) rfl rfl (rl12 c t f k _ _ _ _ hS6 hSn (hK6 k) (hK6 t) (hK6 f) o1 o2 wt wf cNm (cN k o7 o8) (cN t (by omega) (by omega)) (cN f (by omega) (by omega)) hk y1 hj y2 w)
    · exact fin _ _ _ (bb (by simp [hk, hj, y1, y2, y3])) rfl rfl (rl13 c t f k _ _ _ _ hS6 hSn (hK6 k) (hK6 t) (hK6 f) o1 o2 wt wf cNm (cN k o7 o8) (cN t (by omega) (by omega)) (cN f (by omega) (by omega)) hk y1 hj y2 y3 w)
    · exact fin _ _ _ (bb (by simp [hk, hj, y1])) rfl rfl (rl20 c t f k _ _ _ _ hS6 hSn (hK6 k) (hK6 t) (hK6 f) o1 o2 wt wf cNm (cN k o7 o8) (cN t (by omega) (by omega)) (cN f (by omega) (by omega)) hk y1 hj w)
    · exact fin _ _ _ (bb (by simp [hk, hj, y1, y2, y3])) rfl rfl (rl21 c t f k _ _ _ _ hS6 hSn (hK6 k) (hK6 t) (hK6 f) o1 o2 wt wf cNm (cN k o7 o8) (cN t (by omega) (by omega)) (cN f (by omega) (by omega)) hk y1 hj y2 y3 w)
    · exact fin _ _ _ (bb (by simp [hk, hj, y1, y2])) rfl rfl (rl22 c t f k _ _ _ _ hS6 hSn (hK6 k) (hK6 t) (hK6 f) o1 o2 wt wf cNm (cN k o7 o8) (cN t (by omega) (by omega)) (cN f (by omega) (by omega)) hk y1 hj y2 w)
    · exact fin _ _ _ (bb (by simp [hk, hj, y1, y2, y3])) rfl rfl (rl23 c t f k _ _ _ _ hS6 hSn (hK6 k) (hK6 t) (hK6 f) o1 o2 wt wf cNm (cN k o7 o8) (cN t (by omega) (by omega)) (cN f (by omega) (by omega)) hk y1 hj y2 y3 w)
end Go.Proofs.YtapjjpjiggjlfaaDoor.B
