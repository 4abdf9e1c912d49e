/-
  The walk of the statement AtomBits, over what the program's own functions answer.
-/
import Derived.Test.YtkeigicobcjleabAtoMade
import Derived.Test.YtkeigicobcjleabAtoRefF
import Derived.Test.YtkeigicobcjleabAtoRec
namespace Go.Proofs.Ytkeigicobcjleab.TM
set_option linter.unusedVariables false
set_option maxRecDepth 100000
/-- the rows of some bits of a word -/
def q3 (x m : Int) : List N := [(2, 0, 0, x), (1, 0, 0, m), (336, 0, 1, 0)]
def q4 (x m k : Int) : List N := [(2, 0, 0, x), (1, 0, 0, m), (336, 0, 1, 0), (1, 0, 0, k)]
theorem q3_row {x m : Int} (h : 0 ≤ x ∧ x < 16) : Row (q3 x m) := by
  refine ⟨by show 3 ≤ 65536; decide, fun i hi => ?_⟩
  have : i < 3 := hi
  match i, this with
  | 0, _ => show may (2, 0, 0, x) 0 = true; rw [may_word rfl]; simp; omega
  | 1, _ => show may (1, 0, 0, m) 1 = true; rw [may_num rfl]; rfl
  | 2, _ => show may (336, 0, 1, 0) 2 = true; decide
theorem q4_row {x m k : Int} (h : 0 ≤ x ∧ x < 16) : Row (q4 x m k) := by
  refine ⟨by show 4 ≤ 65536; decide, fun i hi => ?_⟩
  have : i < 4 := hi
  match i, this with
  | 0, _ => show may (2, 0, 0, x) 0 = true; rw [may_word rfl]; simp; omega
  | 1, _ => show may (1, 0, 0, m) 1 = true; rw [may_num rfl]; rfl
  | 2, _ => show may (336, 0, 1, 0) 2 = true; decide
  | 3, _ => show may (1, 0, 0, k) 3 = true; rw [may_num rfl]; rfl
theorem q3_once (x m : Int) : Once (q3 x m) := by
  intro i j hi hj h
  have hi : i < 3 := hi
  have hj : j < 3 := hj
  match i, hi, j, hj with
  | 0, _, 0, _ => rfl
  | 0, _, 1, _ => cases h
  | 0, _, 2, _ => cases h
  | 1, _, 0, _ => cases h
  | 1, _, 1, _ => rfl
  | 1, _, 2, _ => cases h
  | 2, _, 0, _ => cases h
  | 2, _, 1, _ => cases h
  | 2, _, 2, _ => rfl
theorem q4_once {x m k : Int} (hmk : m ≠ k) : Once (q4 x m k) := by
  intro i j hi hj h
  have hi : i < 4 := hi
  have hj : j < 4 := hj
  match i, hi, j, hj with
  | 0, _, 0, _ => rfl
  | 0, _, 1, _ => cases h
  | 0, _, 2, _ => cases h
  | 0, _, 3, _ => cases h
  | 1, _, 0, _ => cases h
  | 1, _, 1, _ => rfl
  | 1, _, 2, _ => cases h
  | 1, _, 3, _ => exact absurd (show m = k from congrArg (fun n : N => n.2.2.2) h) hmk
  | 2, _, 0, _ => cases h
  | 2, _, 1, _ => cases h
  | 2, _, 2, _ => rfl
  | 2, _, 3, _ => cases h
  | 3, _, 0, _ => cases h
  | 3, _, 1, _ => exact absurd (show m = k from (congrArg (fun n : N => n.2.2.2) h).symm) hmk
  | 3, _, 2, _ => cases h
  | 3, _, 3, _ => rfl
theorem q4_ok {x m k : Int} (h : 0 ≤ x ∧ x < 16) (hm : 0 ≤ m ∧ m < 4294967296) (hk : 0 ≤ k ∧ k < 4294967296) : ∀ n ∈ q4 x m k, okN n := by
  intro n hn
  simp only [q4, List.mem_cons, List.not_mem_nil, or_false] at hn
  rcases hn with rfl | rfl | rfl | rfl <;> unfold okN <;> simp only <;> omega
theorem q3_ok {x m : Int} (h : 0 ≤ x ∧ x < 16) (hm : 0 ≤ m ∧ m < 4294967296) : ∀ n ∈ q3 x m, okN n := fun n hn => q4_ok (k := 0) h hm (by omega) n (by
  simp only [q3, q4, List.mem_cons, List.not_mem_nil, or_false] at hn ⊢
  rcases hn with rfl | rfl | rfl <;> simp)
theorem q3_tr2 (x m : Int) : tr (q3 x m) 2 = op2 80 (.var x.toNat) (.num m) := by rfl
theorem q3_tr1 (x m : Int) : tr (q3 x m) 1 = .num m := by rfl
theorem q4_tr2 (x m k : Int) : tr (q4 x m k) 2 = op2 80 (.var x.toNat) (.num m) := by rfl
theorem q4_tr3 (x m k : Int) : tr (q4 x m k) 3 = .num k := by rfl
end Go.Proofs.Ytkeigicobcjleab.TM
namespace Go.Proofs.Ytkeigicobcjleab.TB
open Go.ChangeShapes Go.WideShapes Go.ChangeAt Go.RowKit
open Go.Sort hiding Below
set_option linter.unusedVariables false
set_option linter.unusedSimpArgs false
set_option maxRecDepth 100000
/-- a word's bits in a block -/
def BAt (W : World) (b : Nat) (x m k : Int) (r : List Int) : Prop := W.heap[b]? = some (.cells (#[.int .u32 x, .int .u32 m, .int .u32 k] ++ RB.enc r) 26 (0, 0))
theorem BAt.new (W : World) (x m k : Int) (r : List Int) : BAt (W.alloc (.cells (#[.int .u32 x, .int .u32 m, .int .u32 k] ++ RB.enc r) 26)) W.heap.size x m k r := World.alloc_heap_new W _
theorem BAt.cells {W : World} {b : Nat} {x m k : Int} {r : List Int} (h : BAt W b x m k r) : W.cell? ⟨b, 0, none⟩ = some (.int .u32 x) ∧ W.cell? ⟨b, 1, none⟩ = some (.int .u32 m) ∧ W.cell? ⟨b, 2, none⟩ = some (.int .u32 k) := by
  unfold BAt at h
  have e : ∀ j, W.cell? ⟨b, j, none⟩ = (#[Value.int .u32 x, Value.int .u32 m, Value.int .u32 k] ++ RB.enc r)[j]? := fun j => by simp [World.cell?, h]
  refine ⟨?_, ?_, ?_⟩
  · rw [e, Array.getElem?_append_left (by simp)]; rfl
  · rw [e, Array.getElem?_append_left (by simp)]; rfl
  · rw [e, Array.getElem?_append_left (by simp)]; rfl
def lc3 (b n : Nat) : Sem (Array Value) := loadCellsFrom ⟨b, 3, none⟩ 0 n #[]
theorem lc3_eq : ∀ b n, loadCellsFrom ⟨b, 3, none⟩ 0 n #[] = lc3 b n := fun _ _ => rfl
theorem BAt.load {W : World} {b : Nat} {x m k : Int} {r : List Int} (h : BAt W b x m k r) (hk : r.length = 16) : (lc3 b 16).run Try.prog W = .ok (RB.enc r) W := by
  unfold lc3
  have hsz := RB.enc_size hk
  have := run_loadCells_list (P := Try.prog) W ⟨b, 3, none⟩ (RB.enc r).toList (fun j v hv => by
    have hadd : (⟨b, 3, none⟩ : Addr).add j = ⟨b, 3 + j, none⟩ := by unfold Addr.add; split <;> simp_all
    rw [hadd]
    have hj : j < (RB.enc r).toList.length := (List.getElem?_eq_some_iff.1 hv).1
    unfold BAt at h
    have e : W.cell? ⟨b, 3 + j, none⟩ = (#[Value.int .u32 x, Value.int .u32 m, Value.int .u32 k] ++ RB.enc r)[3 + j]? := by simp [World.cell?, h]
    rw [e, Array.getElem?_append_right (by simp)]
    simpa using hv)
  have e16 : (RB.enc r).toList.length = 16 := by simpa using hsz
  rw [e16, Array.toArray_toList] at this
  exact this

theorem lie_q3 (W : World) (y m : Int) : LiesN (W.alloc (.cells #[.int .i64 2, .int .i64 0, .int .i64 0, .int .u32 y, .int .i64 1, .int .i64 0, .int .i64 0, .int .u32 m, .int .i64 336, .int .i64 0, .int .i64 1, .int .u32 0] 28)) (some ⟨W.heap.size, 0, none⟩) (TM.q3 y m) ∧ Below W.heap.size W (W.alloc (.cells #[.int .i64 2, .int .i64 0, .int .i64 0, .int .u32 y, .int .i64 1, .int .i64 0, .int .i64 0, .int .u32 m, .int .i64 336, .int .i64 0, .int .i64 1, .int .u32 0] 28)) :=
  ⟨(ly_of_own (n := 3) (cap := 3) (World.ownsRow_lit (base := W.heap.size) (e := 28) (size := 4) W (n4s (TM.q3 y m)).toArray 3 (Nat.le_refl _) (by unfold maxLen; omega) (by simp [n4s_len, TM.q3])) rfl).lies, al _ _⟩
theorem lie_q4 (W : World) (y m k : Int) (A B : Obj) (z : Array Value) : LiesN (((W.alloc A).alloc B).alloc (.cells (#[.int .i64 2, .int .i64 0, .int .i64 0, .int .u32 y, .int .i64 1, .int .i64 0, .int .i64 0, .int .u32 m, .int .i64 336, .int .i64 0, .int .i64 1, .int .u32 0] ++ (#[.int .i64 1, .int .i64 0, .int .i64 0, .int .u32 k] ++ z)) 28)).drew (some ⟨W.heap.size + 1 + 1, 0, none⟩) (TM.q4 y m k) ∧ Below W.heap.size W (((W.alloc A).alloc B).alloc (.cells (#[.int .i64 2, .int .i64 0, .int .i64 0, .int .u32 y, .int .i64 1, .int .i64 0, .int .i64 0, .int .u32 m, .int .i64 336, .int .i64 0, .int .i64 1, .int .u32 0] ++ (#[.int .i64 1, .int .i64 0, .int .i64 0, .int .u32 k] ++ z)) 28)).drew := by
  refine ⟨?_, bdrewA ((al2 W A B).trans ((al _ _).mono (al2 W A B).size))⟩
  have hs : ((W.alloc A).alloc B).heap.size = W.heap.size + 1 + 1 := by simp
  have e : (#[Value.int .i64 2, .int .i64 0, .int .i64 0, .int .u32 y, .int .i64 1, .int .i64 0, .int .i64 0, .int .u32 m, .int .i64 336, .int .i64 0, .int .i64 1, .int .u32 0] ++ (#[.int .i64 1, .int .i64 0, .int .i64 0, .int .u32 k] ++ z) : Array Value) =
      (Value.int .i64 2 :: .int .i64 0 :: .int .i64 0 :: .int .u32 y :: .int .i64 1 :: .int .i64 0 :: .int .i64 0 :: .int .u32 m :: .int .i64 336 :: .int .i64 0 :: .int .i64 1 :: .int .u32 0 :: .int .i64 1 :: .int .i64 0 :: .int .i64 0 :: .int .u32 k :: z.toList).toArray := by
    apply Array.toList_inj.1; simp
  rw [e, ← hs]
  refine .inr ⟨_, 0, rfl, by show _ < (World.alloc _ _).heap.size; simp, fun j h => ?_⟩
  have h : j < 4 := h
  have c := fun i => cell_lit ((W.alloc A).alloc B) (Value.int .i64 2 :: .int .i64 0 :: .int .i64 0 :: .int .u32 y :: .int .i64 1 :: .int .i64 0 :: .int .i64 0 :: .int .u32 m :: .int .i64 336 :: .int .i64 0 :: .int .i64 1 :: .int .u32 0 :: .int .i64 1 :: .int .i64 0 :: .int .i64 0 :: .int .u32 k :: z.toList) 28 i
  match j, h with
  | 0, _ => exact ⟨c 0, c 1, c 2, c 3⟩
  | 1, _ => exact ⟨c 4, c 5, c 6, c 7⟩
  | 2, _ => exact ⟨c 8, c 9, c 10, c 11⟩
  | 3, _ => exact ⟨c 12, c 13, c 14, c 15⟩
set_option maxHeartbeats 3200000 in
set_option maxRecDepth 1000000 in
theorem bits_t3 {Pl : PoolIs} (hPl : PoolOk Pl) (hKm : KmOk Pl) (hPa : PfOk Pl) (hAw : Aw13) (x m : Int) (r : List Int) (hx : 0 ≤ x ∧ x < 4294967296) (hm : 0 ≤ m ∧ m < 4294967296) (hr : R.okR r) (w : World) :
    Calls Try.prog 3 #[.agg (#[.int .u32 x, .int .u32 m, .int .u32 m] ++ RB.enc r)] w fun e w' => e = .returned (.bool true) ∧ Below w.heap.size w w' := by
  have hA0 := BAt.new w x m m r
  have hb0 := al w (.cells (#[.int .u32 x, .int .u32 m, .int .u32 m] ++ RB.enc r) 26)
  obtain ⟨w0, hw0⟩ : ∃ w0, w.alloc (.cells (#[.int .u32 x, .int .u32 m, .int .u32 m] ++ RB.enc r) 26) = w0 := ⟨_, rfl⟩
  rw [hw0] at hA0 hb0
  obtain ⟨c0, c1, c2⟩ := hA0.cells
  have hlt : w.heap.size < w0.heap.size := by rw [← hw0]; simp
  have hld := fun (W : World) (hb : Below w0.heap.size w0 W) => (show BAt W w.heap.size x m m r from (hb.block _ hlt).trans hA0).load hr.1
  have hX3 := lc3_eq
  have hsz16 := RB.enc_size hr.1
  have hasz : (#[Value.int .u32 x, Value.int .u32 m, Value.int .u32 m] ++ RB.enc r).size = 19 := by simp [hsz16]
  obtain ⟨j, hy⟩ : ∃ j : Nat, x.tmod 16 = (j : Int) := ⟨(x.tmod 16).toNat, by rw [Int.tmod_eq_emod_of_nonneg hx.1]; omega⟩
  have hy16 : 0 ≤ (j : Int) ∧ (j : Int) < 16 := by rw [← hy, Int.tmod_eq_emod_of_nonneg hx.1]; omega
  go_enter Try.func3, Try.ntmps3
  go_upto_region 1 with fail
  try rw [hw0]
  refine wp_region_held_drew (S := fun w' => (∀ b o, b < w0.heap.size → w'.cell? ⟨b, o, none⟩ = w0.cell? ⟨b, o, none⟩) ∧ Below w0.heap.size w0 w') (by kernel_rfl) ?_ (fun hHeld => ?_)
  · ((try dsimp only); (go_split_ands; refine bkeepS ?_; first | exact (Below.refl _ _).drew | assumption | exact Below.trans (by assumption) (Below.mono (by assumption) (Below.size (by assumption)))))
  change wpAnyH _ _ _ _ _ 14 #[false, false, false, false, false, false, false, false, false, false, false, false, false, false] _ _
  refine wpAnyH_take (i := 0) (v := ?_) (by simp only [List.getElem?_toArray, List.getElem?_cons_zero]; rfl) (by kernel_rfl) (by kernel_rfl) (by kernel_rfl) (by exact fun _ _ _ h => h) (Or.inl ⟨by rfl, ?_⟩) (by assumption) ?_
  rotate_left
  · (intro w hSw; (try dsimp only at hSw); go_simp; try with_reducible rfl)
  try simp only [Act.put, List.setIfInBounds_toArray, List.set_cons_zero, List.set_cons_succ]
  refine wpAnyH_take (i := 1) (v := ?_) (by simp only [List.getElem?_toArray, List.getElem?_cons_succ, List.getElem?_cons_zero]; rfl) (by kernel_rfl) (by kernel_rfl) (by kernel_rfl) (by exact fun _ _ _ h => h) (Or.inl ⟨by rfl, ?_⟩) (by assumption) ?_
  rotate_left
  · (intro w hSw; (try dsimp only at hSw); go_simp; try with_reducible rfl)
  try simp only [Act.put, List.setIfInBounds_toArray, List.set_cons_zero, List.set_cons_succ]
  refine wpAnyH_take (i := 2) (v := ?_) (by simp only [List.getElem?_toArray, List.getElem?_cons_succ, List.getElem?_cons_zero]; rfl) (by kernel_rfl) (by kernel_rfl) (by kernel_rfl) (by exact fun _ _ _ h => h) (Or.inl ⟨by rfl, ?_⟩) (by assumption) ?_
  rotate_left
  · (intro w hSw; (try dsimp only at hSw); go_simp; try with_reducible rfl)
  try simp only [Act.put, List.setIfInBounds_toArray, List.set_cons_zero, List.set_cons_succ]
  refine wpAnyH_take (i := 3) (v := ?_) (by simp only [List.getElem?_toArray, List.getElem?_cons_succ, List.getElem?_cons_zero]; rfl) (by kernel_rfl) (by kernel_rfl) (by kernel_rfl) (by exact fun _ _ _ h => h) (Or.inl ⟨by rfl, ?_⟩) (by assumption) ?_
  rotate_left
  · (intro w hSw; (try dsimp only at hSw); go_simp; try with_reducible rfl)
  try simp only [Act.put, List.setIfInBounds_toArray, List.set_cons_zero, List.set_cons_succ]
  refine wpAnyH_take (i := 4) (v := ?_) (by simp only [List.getElem?_toArray, List.getElem?_cons_succ, List.getElem?_cons_zero]; rfl) (by kernel_rfl) (by kernel_rfl) (by kernel_rfl) (by exact fun _ _ _ h => h) (Or.inl ⟨by rfl, ?_⟩) (by assumption) ?_
  rotate_left
  · (intro w hSw; (try dsimp only at hSw); go_simp; try with_reducible rfl)
  try simp only [Act.put, List.setIfInBounds_toArray, List.set_cons_zero, List.set_cons_succ]
  refine wpAnyH_take (i := 5) (v := ?_) (by simp only [List.getElem?_toArray, List.getElem?_cons_succ, List.getElem?_cons_zero]; rfl) (by kernel_rfl) (by kernel_rfl) (by kernel_rfl) (by exact fun _ _ _ h => h) (Or.inl ⟨by rfl, ?_⟩) (by assumption) ?_
  rotate_left
  · (intro w hSw; (try dsimp only at hSw); go_simp; try with_reducible rfl)
  try simp only [Act.put, List.setIfInBounds_toArray, List.set_cons_zero, List.set_cons_succ]
  refine wpAnyH_take (i := 6) (v := ?_) (by simp only [List.getElem?_toArray, List.getElem?_cons_succ, List.getElem?_cons_zero]; rfl) (by kernel_rfl) (by kernel_rfl) (by kernel_rfl) (by exact fun _ _ _ h => h) (Or.inl ⟨by rfl, ?_⟩) (by assumption) ?_
  rotate_left
  · (intro w hSw; (try dsimp only at hSw); go_simp; try with_reducible rfl)
  try simp only [Act.put, List.setIfInBounds_toArray, List.set_cons_zero, List.set_cons_succ]
  refine wpAnyH_take (i := 7) (v := ?_) (by simp only [List.getElem?_toArray, List.getElem?_cons_succ, List.getElem?_cons_zero]; rfl) (by kernel_rfl) (by kernel_rfl) (by kernel_rfl) (by exact fun _ _ _ h => h) (Or.inl ⟨by rfl, ?_⟩) (by assumption) ?_
  rotate_left
  · (intro w hSw; (try dsimp only at hSw); go_simp; try with_reducible rfl)
  try simp only [Act.put, List.setIfInBounds_toArray, List.set_cons_zero, List.set_cons_succ]
  refine wpAnyH_take (i := 8) (v := ?_) (by simp only [List.getElem?_toArray, List.getElem?_cons_succ, List.getElem?_cons_zero]; rfl) (by kernel_rfl) (by kernel_rfl) (by kernel_rfl) (by exact fun _ _ _ h => h) (Or.inl ⟨by rfl, ?_⟩) (by assumption) ?_
  rotate_left
  · (intro w hSw; (try dsimp only at hSw); have hl3 := hld w hSw.2; go_simp; try with_reducible rfl)
  try simp only [Act.put, List.setIfInBounds_toArray, List.set_cons_zero, List.set_cons_succ]
  refine wpAnyH_ready (rs := [9]) (by kernel_rfl) (by simp) ?_
  refine AllReadyH.cons rfl (fun K hK => ?_) AllReadyH.nil
  go_simp
  try dsimp only
  refine hK.out _ _ ?_ (fun hHeld => ?_)
  · exact bkeepS (by first | exact al _ _ | exact bdrewA (al _ _) | exact Below.trans (Below.refl _ _).drew (bdrewA (al _ _)))
  clear hK K
  refine wpAnyH_take (i := 10) (v := ?_) (by simp only [List.getElem?_toArray, List.getElem?_cons_succ, List.getElem?_cons_zero]; rfl) (by kernel_rfl) (by kernel_rfl) (by kernel_rfl) (by exact fun _ _ _ h => h) (Or.inl ⟨by rfl, ?_⟩) (by assumption) ?_
  rotate_left
  · (intro w hSw; (try dsimp only at hSw); go_simp; try with_reducible rfl)
  try simp only [Act.put, List.setIfInBounds_toArray, List.set_cons_zero, List.set_cons_succ]
  refine wpAnyH_take (i := 11) (v := ?_) (by simp only [List.getElem?_toArray, List.getElem?_cons_succ, List.getElem?_cons_zero]; rfl) (by kernel_rfl) (by kernel_rfl) (by kernel_rfl) (by exact fun _ _ _ h => h) (Or.inl ⟨by rfl, ?_⟩) (by assumption) ?_
  rotate_left
  · (intro w hSw; (try dsimp only at hSw); go_simp; try with_reducible rfl)
  try simp only [Act.put, List.setIfInBounds_toArray, List.set_cons_zero, List.set_cons_succ]
  refine wpAnyH_take (i := 12) (v := ?_) (by simp only [List.getElem?_toArray, List.getElem?_cons_succ, List.getElem?_cons_zero]; rfl) (by kernel_rfl) (by kernel_rfl) (by kernel_rfl) (by exact fun _ _ _ h => h) (Or.inl ⟨by rfl, ?_⟩) (by assumption) ?_
  rotate_left
  · (intro w hSw; (try dsimp only at hSw); go_simp; try with_reducible rfl)
  try simp only [Act.put, List.setIfInBounds_toArray, List.set_cons_zero, List.set_cons_succ]
  have hR0 := (RB.Rec.new w0 R.zero rfl).drew
  obtain ⟨W2, hst, hR2, _, hsz2, hB2⟩ := hR0.store (m := r) hr.1
  have hst' : (storeCells ⟨w0.heap.size, 0, none⟩ (RB.enc r).toList).run Try.prog ((w0.alloc (.cells #[.int .u32 0, .int .u32 0, .int .u32 0, .int .u32 0, .int .u32 0, .int .u32 0, .int .u32 0, .int .u32 0, .int .u32 0, .int .u32 0, .int .u32 0, .int .u32 0, .int .u32 0, .int .u32 0, .int .u32 0, .int .u32 0] 24)).drew) = .ok () W2 := hst
  have hB3 : Below w0.heap.size w0 W2 := hB2 _ _ (Nat.le_refl _) (bdrewA (al _ _))
  clear hst hB2 hR0
  refine wpAnyH_ready (rs := [13]) (by kernel_rfl) (by simp) ?_
  refine AllReadyH.cons rfl (fun K hK => ?_) AllReadyH.nil
  go_simp
  try dsimp only
  refine hK.out _ _ ?_ (fun hHeld => ?_)
  · exact bkeepS (by first | exact hB3 | exact bdrewA hB3)
  clear hK K
  refine wpAnyH_done (by kernel_rfl) ?_ _
  try rw [hy]
  have hB := hb0.trans (hB3.mono hb0.size)
  have HB := hid hB
  have HRc := hid hR2
  obtain ⟨rb, hrb⟩ : ∃ rb, w0.heap.size = rb := ⟨_, rfl⟩
  rw [hrb] at HRc ⊢
  clear hA0 hb0 c0 c1 c2 hlt hld hX3 hasz hst' hB3 hB hR2 hsz2 hHeld hw0 hrb hy
  have hne : (m != m) = false := bne_self_eq_false _
  have HMd := hid (fun W A c (h : LiesN W A (TM.q3 (j : Int) m)) => (lmade hPl hKm hPa A 3 c (TM.q3 (j : Int) m) rfl (by omega) (TM.q3_row hy16) (TM.q3_once _ m) (TM.q3_ok hy16 hm) 16 (by decide) 2 1 (by omega) (by omega) false W h : Calls Try.prog 4 #[.slice A 3 c, .int .i64 16, .agg #[.int .i64 2, .int .i64 1], .bool false] W _))
  obtain ⟨t, ht⟩ : ∃ t, TM.mkA 16 (TM.op2 80 (.var j) (.num m)) (.num m) false = t := ⟨_, rfl⟩
  have ht' : TM.mkA 16 (TM.tr (TM.q3 (j : Int) m) 2) (TM.tr (TM.q3 (j : Int) m) 1) false = t := ht
  rw [ht'] at HMd
  have HTt := hid ht
  have HAw := hid hAw
  have HA1 := hid (fun W => WB.ralu_any 80 m m hm.1 hm.2 hm.1 hm.2 W)
  have HA2 := hid (fun W => WB.ralu_any 80 (R.at_ r j) m (hr.2 j).1 (hr.2 j).2 hm.1 hm.2 W)
  have HNum := hid (And.intro hm (And.intro hm (And.intro hr hy16)))
  clear ht ht' hAw hPl hKm hPa hm hr hy16
  go_wp2_with fail
  refine (HMd.out _ _ _ (lie_q3 W2 (j : Int) m).1).mono ?_
  rintro e1 w5 ⟨L2, o2, p, q, n2, s5, c5, rfl, hM, hML, hc5, hl5, hb, hs5⟩
  have hb2 : Below W2.heap.size W2 w5 := Below.trans (lie_q3 W2 (j : Int) m).2 (hb.mono (lie_q3 W2 (j : Int) m).2.size)
  have hAl := al w5 (.cells #[.int .i64 o2, .int .i64 (p : Int), .int .i64 (q : Int), .bool n2] 31)
  have hT := AAt.new w5 o2 (p : Int) (q : Int) n2
  have hbb := hb2.trans (hAl.mono hb2.size)
  replace HRc := hid (HRc.out.below hbb HRc.out.lt)
  replace HB := stp HB hbb
  have hl5' := hl5.below hAl
  go_wp2_with fail
  obtain ⟨w6, hw6⟩ : ∃ w6, w5.alloc (.cells #[.int .i64 o2, .int .i64 (p : Int), .int .i64 (q : Int), .bool n2] 31) = w6 := ⟨_, rfl⟩
  obtain ⟨tb, htb⟩ : ∃ tb, w5.heap.size = tb := ⟨_, rfl⟩
  rw [hw6] at hT HRc HB hl5' ⊢
  rw [htb] at hT ⊢
  have HT := hid hT
  have HM := hid (And.intro hM hML)
  have HL5 := hid hl5'
  clear hM hML hl5 hb hb2 hs5 hAl hT hbb hl5' HMd hw6 htb hne
  refine (HAw.out _).mono ?_
  rintro e1 w7 ⟨rfl, hb⟩
  replace HRc := hid (HRc.out.below hb HRc.out.lt)
  replace HB := stp HB hb
  replace HT := hid (HT.out.below hb)
  replace HL5 := hid (HL5.out.below hb)
  clear hb HAw
  go_wp2_with fail
  refine (HA1.out _).mono ?_
  rintro e1 w8 ⟨rfl, hb⟩
  replace HRc := hid (HRc.out.below hb HRc.out.lt)
  replace HB := stp HB hb
  replace HT := hid (HT.out.below hb)
  replace HL5 := hid (HL5.out.below hb)
  clear hb HA1
  have tl : ∀ a b : Int, TM.told 80 a b = WM.val 80 a b := fun a b => TM.told_on (by decide) (by decide) a b
  by_cases e : WM.val 80 m m = m
  · have d1 : (WM.val 80 m m != m) = false := bne_eq_false_iff_eq.2 e
    have E := hid e
    have TL := hid tl
    clear e tl
    by_cases e1 : t.1 = 1
    · have d2 : (((t.1 : Nat) : Int) != 1) = false := by rw [e1]; rfl
      obtain ⟨rfl, rfl, hp, hq, hpt, hqt⟩ := HM.out.1.op e1
      obtain ⟨hm, hk, hr, hj⟩ := HNum.out
      have hjj : j < 16 := by omega
      have hval := TM.mkA_val (r := r) (fun i => hr.2 i) (op := 16) (by decide) (s := TM.op2 80 (.var j) (.num m)) (t := .num m) (TM.tr_okT (TM.q3_row hj) (TM.q3_ok hj hm) 2 (show 2 < 3 by omega)) (TM.tr_okT (TM.q3_row hj) (TM.q3_ok hj hm) 1 (show 1 < 3 by omega)) false
      rw [HTt.out] at hval
      have HH2 := hid (fun W (h : LiesN W s5 L2) => rholdsA s5 L2.length c5 L2 rfl HM.out.1.row HM.out.1.ok r hr t.2.1 p q hp hq t.2.2.2.2 W h)
      have hE : (WM.ask t.2.1 (TM.val L2 r p) (TM.val L2 r q) != t.2.2.2.2) = TM.hldA r t := by
        rw [TM.val_tr HM.out.1.row r p hp, TM.val_tr HM.out.1.row r q hq, hpt, hqt]
        unfold TM.hldA
        rw [if_pos e1]
      have hE2 : TM.hldA r t = (WM.val 80 (R.at_ r j) m == m) := by
        rw [hval, Bool.bne_false]
        show WM.ask 16 (TM.told 80 (r.getD j 0) m) m = _
        rw [TL.out]
        rfl
      rw [hE, hE2] at HH2
      have c2 := HRc.out.cell j hjj
      have i3 : (j : Int) < 16 := by omega
      clear hE hE2 hval hpt hqt hp hq HM HTt E TL HNum hm hk hr hj
      go_wp2_with fail
      refine (HA2.out _).mono ?_
      rintro e1 w9 ⟨rfl, hb⟩
      replace HRc := hid (HRc.out.below hb HRc.out.lt)
      replace HB := stp HB hb
      replace HT := hid (HT.out.below hb)
      replace HL5 := hid (HL5.out.below hb)
      clear hb HA2 c2
      have hla := HT.out.load
      have hld := HRc.out.load
      have hXX := RB.lcf_eq
      go_wp2_with fail
      refine (HH2.out _ HL5.out).mono ?_
      rintro e1 w10 ⟨rfl, hb⟩
      replace HB := stp HB hb
      clear hb HH2
      obtain ⟨bb, hbb⟩ : ∃ bb, (WM.val 80 (R.at_ r j) m == m) = bb := ⟨_, rfl⟩
      rw [hbb]
      cases bb
      all_goals
        go_wp2
        go_ret
        exact ⟨rfl, HB.out⟩
    · have d2 : (((t.1 : Nat) : Int) != 1) = true := bne_iff_ne.2 (by omega)
      have hk2 := TM.bits_known (w := j) HNum.out.1 HNum.out.1 (by rw [TL.out]; exact E.out) false (by rw [HTt.out]; exact e1)
      rw [HTt.out] at hk2
      have d3 : (((t.1 : Nat) : Int) == 2) = true := by rw [hk2.2]; rfl
      have d4 : (m == 0) = true := beq_iff_eq.2 hk2.1
      clear hk2 HTt E TL HM HNum
      go_wp2
      go_ret
      exact ⟨rfl, HB.out⟩
  · have d1 : (WM.val 80 m m != m) = true := bne_iff_ne.2 e
    have hn := TM.bits_no (w := j) HNum.out.1 HNum.out.1 (by rw [tl]; exact e) false
    rw [HTt.out] at hn
    have d3 : (((t.1 : Nat) : Int) == 3) = true := by rw [hn]; rfl
    clear hn HTt tl e HM HNum
    go_wp2
    go_ret
    exact ⟨rfl, HB.out⟩
set_option maxHeartbeats 3200000 in
set_option maxRecDepth 1000000 in
theorem bits_t4 {Pl : PoolIs} (hPl : PoolOk Pl) (hKm : KmOk Pl) (hPa : PfOk Pl) (hAw : Aw13) (x m k : Int) (r : List Int) (hx : 0 ≤ x ∧ x < 4294967296) (hm : 0 ≤ m ∧ m < 4294967296) (hk : 0 ≤ k ∧ k < 4294967296) (hr : R.okR r) (hmk : m ≠ k) (w : World) :
    Calls Try.prog 3 #[.agg (#[.int .u32 x, .int .u32 m, .int .u32 k] ++ RB.enc r)] w fun e w' => e = .returned (.bool true) ∧ Below w.heap.size w w' := by
  have hA0 := BAt.new w x m k r
  have hb0 := al w (.cells (#[.int .u32 x, .int .u32 m, .int .u32 k] ++ RB.enc r) 26)
  obtain ⟨w0, hw0⟩ : ∃ w0, w.alloc (.cells (#[.int .u32 x, .int .u32 m, .int .u32 k] ++ RB.enc r) 26) = w0 := ⟨_, rfl⟩
  rw [hw0] at hA0 hb0
  obtain ⟨c0, c1, c2⟩ := hA0.cells
  have hlt : w.heap.size < w0.heap.size := by rw [← hw0]; simp
  have hld := fun (W : World) (hb : Below w0.heap.size w0 W) => (show BAt W w.heap.size x m k r from (hb.block _ hlt).trans hA0).load hr.1
  have hX3 := lc3_eq
  have hsz16 := RB.enc_size hr.1
  have hasz : (#[Value.int .u32 x, Value.int .u32 m, Value.int .u32 k] ++ RB.enc r).size = 19 := by simp [hsz16]
  obtain ⟨j, hy⟩ : ∃ j : Nat, x.tmod 16 = (j : Int) := ⟨(x.tmod 16).toNat, by rw [Int.tmod_eq_emod_of_nonneg hx.1]; omega⟩
  have hy16 : 0 ≤ (j : Int) ∧ (j : Int) < 16 := by rw [← hy, Int.tmod_eq_emod_of_nonneg hx.1]; omega
  go_enter Try.func3, Try.ntmps3
  go_upto_region 1 with fail
  try rw [hw0]
  refine wp_region_held_drew (S := fun w' => (∀ b o, b < w0.heap.size → w'.cell? ⟨b, o, none⟩ = w0.cell? ⟨b, o, none⟩) ∧ Below w0.heap.size w0 w') (by kernel_rfl) ?_ (fun hHeld => ?_)
  · ((try dsimp only); (go_split_ands; refine bkeepS ?_; first | exact (Below.refl _ _).drew | assumption | exact Below.trans (by assumption) (Below.mono (by assumption) (Below.size (by assumption)))))
  change wpAnyH _ _ _ _ _ 14 #[false, false, false, false, false, false, false, false, false, false, false, false, false, false] _ _
  refine wpAnyH_take (i := 0) (v := ?_) (by simp only [List.getElem?_toArray, List.getElem?_cons_zero]; rfl) (by kernel_rfl) (by kernel_rfl) (by kernel_rfl) (by exact fun _ _ _ h => h) (Or.inl ⟨by rfl, ?_⟩) (by assumption) ?_
  rotate_left
  · (intro w hSw; (try dsimp only at hSw); go_simp; try with_reducible rfl)
  try simp only [Act.put, List.setIfInBounds_toArray, List.set_cons_zero, List.set_cons_succ]
  refine wpAnyH_take (i := 1) (v := ?_) (by simp only [List.getElem?_toArray, List.getElem?_cons_succ, List.getElem?_cons_zero]; rfl) (by kernel_rfl) (by kernel_rfl) (by kernel_rfl) (by exact fun _ _ _ h => h) (Or.inl ⟨by rfl, ?_⟩) (by assumption) ?_
  rotate_left
  · (intro w hSw; (try dsimp only at hSw); go_simp; try with_reducible rfl)
  try simp only [Act.put, List.setIfInBounds_toArray, List.set_cons_zero, List.set_cons_succ]
  refine wpAnyH_take (i := 2) (v := ?_) (by simp only [List.getElem?_toArray, List.getElem?_cons_succ, List.getElem?_cons_zero]; rfl) (by kernel_rfl) (by kernel_rfl) (by kernel_rfl) (by exact fun _ _ _ h => h) (Or.inl ⟨by rfl, ?_⟩) (by assumption) ?_
  rotate_left
  · (intro w hSw; (try dsimp only at hSw); go_simp; try with_reducible rfl)
  try simp only [Act.put, List.setIfInBounds_toArray, List.set_cons_zero, List.set_cons_succ]
  refine wpAnyH_take (i := 3) (v := ?_) (by simp only [List.getElem?_toArray, List.getElem?_cons_succ, List.getElem?_cons_zero]; rfl) (by kernel_rfl) (by kernel_rfl) (by kernel_rfl) (by exact fun _ _ _ h => h) (Or.inl ⟨by rfl, ?_⟩) (by assumption) ?_
  rotate_left
  · (intro w hSw; (try dsimp only at hSw); go_simp; try with_reducible rfl)
  try simp only [Act.put, List.setIfInBounds_toArray, List.set_cons_zero, List.set_cons_succ]
  refine wpAnyH_take (i := 4) (v := ?_) (by simp only [List.getElem?_toArray, List.getElem?_cons_succ, List.getElem?_cons_zero]; rfl) (by kernel_rfl) (by kernel_rfl) (by kernel_rfl) (by exact fun _ _ _ h => h) (Or.inl ⟨by rfl, ?_⟩) (by assumption) ?_
  rotate_left
  · (intro w hSw; (try dsimp only at hSw); go_simp; try with_reducible rfl)
  try simp only [Act.put, List.setIfInBounds_toArray, List.set_cons_zero, List.set_cons_succ]
  refine wpAnyH_take (i := 5) (v := ?_) (by simp only [List.getElem?_toArray, List.getElem?_cons_succ, List.getElem?_cons_zero]; rfl) (by kernel_rfl) (by kernel_rfl) (by kernel_rfl) (by exact fun _ _ _ h => h) (Or.inl ⟨by rfl, ?_⟩) (by assumption) ?_
  rotate_left
  · (intro w hSw; (try dsimp only at hSw); go_simp; try with_reducible rfl)
  try simp only [Act.put, List.setIfInBounds_toArray, List.set_cons_zero, List.set_cons_succ]
  refine wpAnyH_take (i := 6) (v := ?_) (by simp only [List.getElem?_toArray, List.getElem?_cons_succ, List.getElem?_cons_zero]; rfl) (by kernel_rfl) (by kernel_rfl) (by kernel_rfl) (by exact fun _ _ _ h => h) (Or.inl ⟨by rfl, ?_⟩) (by assumption) ?_
  rotate_left
  · (intro w hSw; (try dsimp only at hSw); go_simp; try with_reducible rfl)
  try simp only [Act.put, List.setIfInBounds_toArray, List.set_cons_zero, List.set_cons_succ]
  refine wpAnyH_take (i := 7) (v := ?_) (by simp only [List.getElem?_toArray, List.getElem?_cons_succ, List.getElem?_cons_zero]; rfl) (by kernel_rfl) (by kernel_rfl) (by kernel_rfl) (by exact fun _ _ _ h => h) (Or.inl ⟨by rfl, ?_⟩) (by assumption) ?_
  rotate_left
  · (intro w hSw; (try dsimp only at hSw); go_simp; try with_reducible rfl)
  try simp only [Act.put, List.setIfInBounds_toArray, List.set_cons_zero, List.set_cons_succ]
  refine wpAnyH_take (i := 8) (v := ?_) (by simp only [List.getElem?_toArray, List.getElem?_cons_succ, List.getElem?_cons_zero]; rfl) (by kernel_rfl) (by kernel_rfl) (by kernel_rfl) (by exact fun _ _ _ h => h) (Or.inl ⟨by rfl, ?_⟩) (by assumption) ?_
  rotate_left
  · (intro w hSw; (try dsimp only at hSw); have hl3 := hld w hSw.2; go_simp; try with_reducible rfl)
  try simp only [Act.put, List.setIfInBounds_toArray, List.set_cons_zero, List.set_cons_succ]
  refine wpAnyH_ready (rs := [9]) (by kernel_rfl) (by simp) ?_
  refine AllReadyH.cons rfl (fun K hK => ?_) AllReadyH.nil
  go_simp
  try dsimp only
  refine hK.out _ _ ?_ (fun hHeld => ?_)
  · exact bkeepS (by first | exact al _ _ | exact bdrewA (al _ _) | exact Below.trans (Below.refl _ _).drew (bdrewA (al _ _)))
  clear hK K
  refine wpAnyH_take (i := 10) (v := ?_) (by simp only [List.getElem?_toArray, List.getElem?_cons_succ, List.getElem?_cons_zero]; rfl) (by kernel_rfl) (by kernel_rfl) (by kernel_rfl) (by exact fun _ _ _ h => h) (Or.inl ⟨by rfl, ?_⟩) (by assumption) ?_
  rotate_left
  · (intro w hSw; (try dsimp only at hSw); go_simp; try with_reducible rfl)
  try simp only [Act.put, List.setIfInBounds_toArray, List.set_cons_zero, List.set_cons_succ]
  refine wpAnyH_take (i := 11) (v := ?_) (by simp only [List.getElem?_toArray, List.getElem?_cons_succ, List.getElem?_cons_zero]; rfl) (by kernel_rfl) (by kernel_rfl) (by kernel_rfl) (by exact fun _ _ _ h => h) (Or.inl ⟨by rfl, ?_⟩) (by assumption) ?_
  rotate_left
  · (intro w hSw; (try dsimp only at hSw); go_simp; try with_reducible rfl)
  try simp only [Act.put, List.setIfInBounds_toArray, List.set_cons_zero, List.set_cons_succ]
  refine wpAnyH_take (i := 12) (v := ?_) (by simp only [List.getElem?_toArray, List.getElem?_cons_succ, List.getElem?_cons_zero]; rfl) (by kernel_rfl) (by kernel_rfl) (by kernel_rfl) (by exact fun _ _ _ h => h) (Or.inl ⟨by rfl, ?_⟩) (by assumption) ?_
  rotate_left
  · (intro w hSw; (try dsimp only at hSw); go_simp; try with_reducible rfl)
  try simp only [Act.put, List.setIfInBounds_toArray, List.set_cons_zero, List.set_cons_succ]
  have hR0 := (RB.Rec.new w0 R.zero rfl).drew
  obtain ⟨W2, hst, hR2, _, hsz2, hB2⟩ := hR0.store (m := r) hr.1
  have hst' : (storeCells ⟨w0.heap.size, 0, none⟩ (RB.enc r).toList).run Try.prog ((w0.alloc (.cells #[.int .u32 0, .int .u32 0, .int .u32 0, .int .u32 0, .int .u32 0, .int .u32 0, .int .u32 0, .int .u32 0, .int .u32 0, .int .u32 0, .int .u32 0, .int .u32 0, .int .u32 0, .int .u32 0, .int .u32 0, .int .u32 0] 24)).drew) = .ok () W2 := hst
  have hB3 : Below w0.heap.size w0 W2 := hB2 _ _ (Nat.le_refl _) (bdrewA (al _ _))
  clear hst hB2 hR0
  refine wpAnyH_ready (rs := [13]) (by kernel_rfl) (by simp) ?_
  refine AllReadyH.cons rfl (fun K hK => ?_) AllReadyH.nil
  go_simp
  try dsimp only
  refine hK.out _ _ ?_ (fun hHeld => ?_)
  · exact bkeepS (by first | exact hB3 | exact bdrewA hB3)
  clear hK K
  refine wpAnyH_done (by kernel_rfl) ?_ _
  try rw [hy]
  have hB := hb0.trans (hB3.mono hb0.size)
  have HB := hid hB
  have HRc := hid hR2
  obtain ⟨rb, hrb⟩ : ∃ rb, w0.heap.size = rb := ⟨_, rfl⟩
  rw [hrb] at HRc ⊢
  clear hA0 hb0 c0 c1 c2 hlt hld hX3 hasz hst' hB3 hB hR2 hsz2 hHeld hw0 hrb hy
  have hne : (m != k) = true := bne_iff_ne.2 hmk
  have HMd := hid (fun W A c (h : LiesN W A (TM.q4 (j : Int) m k)) => (lmade hPl hKm hPa A 4 c (TM.q4 (j : Int) m k) rfl (by omega) (TM.q4_row hy16) (TM.q4_once hmk) (TM.q4_ok hy16 hm hk) 16 (by decide) 2 3 (by omega) (by omega) false W h : Calls Try.prog 4 #[.slice A 4 c, .int .i64 16, .agg #[.int .i64 2, .int .i64 3], .bool false] W _))
  obtain ⟨t, ht⟩ : ∃ t, TM.mkA 16 (TM.op2 80 (.var j) (.num m)) (.num k) false = t := ⟨_, rfl⟩
  have ht' : TM.mkA 16 (TM.tr (TM.q4 (j : Int) m k) 2) (TM.tr (TM.q4 (j : Int) m k) 3) false = t := ht
  rw [ht'] at HMd
  have HTt := hid ht
  have HAw := hid hAw
  have HA1 := hid (fun W => WB.ralu_any 80 m k hm.1 hm.2 hk.1 hk.2 W)
  have HA2 := hid (fun W => WB.ralu_any 80 (R.at_ r j) m (hr.2 j).1 (hr.2 j).2 hm.1 hm.2 W)
  have HNum := hid (And.intro hm (And.intro hk (And.intro hr hy16)))
  clear ht ht' hAw hPl hKm hPa hm hr hy16 hk
  go_wp2_with fail
  refine (HMd.out _ _ _ (lie_q4 W2 (j : Int) m k _ _ _).1).mono ?_
  rintro e1 w5 ⟨L2, o2, p, q, n2, s5, c5, rfl, hM, hML, hc5, hl5, hb, hs5⟩
  have hb2 : Below W2.heap.size W2 w5 := Below.trans (lie_q4 W2 (j : Int) m k _ _ _).2 (hb.mono (lie_q4 W2 (j : Int) m k _ _ _).2.size)
  have hAl := al w5 (.cells #[.int .i64 o2, .int .i64 (p : Int), .int .i64 (q : Int), .bool n2] 31)
  have hT := AAt.new w5 o2 (p : Int) (q : Int) n2
  have hbb := hb2.trans (hAl.mono hb2.size)
  replace HRc := hid (HRc.out.below hbb HRc.out.lt)
  replace HB := stp HB hbb
  have hl5' := hl5.below hAl
  go_wp2_with fail
  obtain ⟨w6, hw6⟩ : ∃ w6, w5.alloc (.cells #[.int .i64 o2, .int .i64 (p : Int), .int .i64 (q : Int), .bool n2] 31) = w6 := ⟨_, rfl⟩
  obtain ⟨tb, htb⟩ : ∃ tb, w5.heap.size = tb := ⟨_, rfl⟩
  rw [hw6] at hT HRc HB hl5' ⊢
  rw [htb] at hT ⊢
  have HT := hid hT
  have HM := hid (And.intro hM hML)
  have HL5 := hid hl5'
  clear hM hML hl5 hb hb2 hs5 hAl hT hbb hl5' HMd hw6 htb hne
  refine (HAw.out _).mono ?_
  rintro e1 w7 ⟨rfl, hb⟩
  replace HRc := hid (HRc.out.below hb HRc.out.lt)
  replace HB := stp HB hb
  replace HT := hid (HT.out.below hb)
  replace HL5 := hid (HL5.out.below hb)
  clear hb HAw
  go_wp2_with fail
  refine (HA1.out _).mono ?_
  rintro e1 w8 ⟨rfl, hb⟩
  replace HRc := hid (HRc.out.below hb HRc.out.lt)
  replace HB := stp HB hb
  replace HT := hid (HT.out.below hb)
  replace HL5 := hid (HL5.out.below hb)
  clear hb HA1
  have tl : ∀ a b : Int, TM.told 80 a b = WM.val 80 a b := fun a b => TM.told_on (by decide) (by decide) a b
  by_cases e : WM.val 80 m k = k
  · have d1 : (WM.val 80 m k != k) = false := bne_eq_false_iff_eq.2 e
    have E := hid e
    have TL := hid tl
    clear e tl
    by_cases e1 : t.1 = 1
    · have d2 : (((t.1 : Nat) : Int) != 1) = false := by rw [e1]; rfl
      obtain ⟨rfl, rfl, hp, hq, hpt, hqt⟩ := HM.out.1.op e1
      obtain ⟨hm, hk, hr, hj⟩ := HNum.out
      have hjj : j < 16 := by omega
      have hval := TM.mkA_val (r := r) (fun i => hr.2 i) (op := 16) (by decide) (s := TM.op2 80 (.var j) (.num m)) (t := .num k) (TM.tr_okT (TM.q4_row hj) (TM.q4_ok hj hm hk) 2 (show 2 < 4 by omega)) (TM.tr_okT (TM.q4_row hj) (TM.q4_ok hj hm hk) 3 (show 3 < 4 by omega)) false
      rw [HTt.out] at hval
      have HH2 := hid (fun W (h : LiesN W s5 L2) => rholdsA s5 L2.length c5 L2 rfl HM.out.1.row HM.out.1.ok r hr t.2.1 p q hp hq t.2.2.2.2 W h)
      have hE : (WM.ask t.2.1 (TM.val L2 r p) (TM.val L2 r q) != t.2.2.2.2) = TM.hldA r t := by
        rw [TM.val_tr HM.out.1.row r p hp, TM.val_tr HM.out.1.row r q hq, hpt, hqt]
        unfold TM.hldA
        rw [if_pos e1]
      have hE2 : TM.hldA r t = (WM.val 80 (R.at_ r j) m == k) := by
        rw [hval, Bool.bne_false]
        show WM.ask 16 (TM.told 80 (r.getD j 0) m) k = _
        rw [TL.out]
        rfl
      rw [hE, hE2] at HH2
      have c2 := HRc.out.cell j hjj
      have i3 : (j : Int) < 16 := by omega
      clear hE hE2 hval hpt hqt hp hq HM HTt E TL HNum hm hk hr hj
      go_wp2_with fail
      refine (HA2.out _).mono ?_
      rintro e1 w9 ⟨rfl, hb⟩
      replace HRc := hid (HRc.out.below hb HRc.out.lt)
      replace HB := stp HB hb
      replace HT := hid (HT.out.below hb)
      replace HL5 := hid (HL5.out.below hb)
      clear hb HA2 c2
      have hla := HT.out.load
      have hld := HRc.out.load
      have hXX := RB.lcf_eq
      go_wp2_with fail
      refine (HH2.out _ HL5.out).mono ?_
      rintro e1 w10 ⟨rfl, hb⟩
      replace HB := stp HB hb
      clear hb HH2
      obtain ⟨bb, hbb⟩ : ∃ bb, (WM.val 80 (R.at_ r j) m == k) = bb := ⟨_, rfl⟩
      rw [hbb]
      cases bb
      all_goals
        go_wp2
        go_ret
        exact ⟨rfl, HB.out⟩
    · have d2 : (((t.1 : Nat) : Int) != 1) = true := bne_iff_ne.2 (by omega)
      have hk2 := TM.bits_known (w := j) HNum.out.1 HNum.out.2.1 (by rw [TL.out]; exact E.out) false (by rw [HTt.out]; exact e1)
      rw [HTt.out] at hk2
      have d3 : (((t.1 : Nat) : Int) == 2) = true := by rw [hk2.2]; rfl
      have d4 : (m == 0) = true := beq_iff_eq.2 hk2.1
      clear hk2 HTt E TL HM HNum
      go_wp2
      go_ret
      exact ⟨rfl, HB.out⟩
  · have d1 : (WM.val 80 m k != k) = true := bne_iff_ne.2 e
    have hn := TM.bits_no (w := j) HNum.out.1 HNum.out.2.1 (by rw [tl]; exact e) false
    rw [HTt.out] at hn
    have d3 : (((t.1 : Nat) : Int) == 3) = true := by rw [hn]; rfl
    clear hn HTt tl e HM HNum
    go_wp2
    go_ret
    exact ⟨rfl, HB.out⟩
theorem bits_law {Pl : PoolIs} (hAw : Aw13) (hPl : PoolOk Pl) (hKm : KmOk Pl) (hPa : PfOk Pl) (x m k : Int) (r : List Int) (hx : 0 ≤ x ∧ x < 4294967296) (hm : 0 ≤ m ∧ m < 4294967296) (hk : 0 ≤ k ∧ k < 4294967296) (hr : R.okR r) (w : World) :
    Calls Try.prog 3 #[.agg (#[.int .u32 x, .int .u32 m, .int .u32 k] ++ RB.enc r)] w fun e w' => e = .returned (.bool true) ∧ Below w.heap.size w w' := by
  by_cases h : m = k
  · subst h; exact bits_t3 hPl hKm hPa hAw x m r hx hm hr w
  · exact bits_t4 hPl hKm hPa hAw x m k r hx hm hk hr h w
end Go.Proofs.Ytkeigicobcjleab.TB
