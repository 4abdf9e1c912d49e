/-
  The walk of the statement TermValues, over what the program's own functions answer.
-/
import Derived.Test.YtkeigicobcjleabT3
namespace Go.Proofs.Ytkeigicobcjleab.TB
open Go.ChangeShapes Go.WideShapes Go.ChangeAt Go.RowKit
open Go.Sort hiding Below
set_option linter.unusedVariables false
set_option maxRecDepth 100000

/-- cells that a slice holds -/
def RowO (W : World) (a : Option Addr) (n : Nat) (V : Nat → Value) : Prop := n = 0 ∨ ∃ g o, a = some ⟨g, o, none⟩ ∧ g < W.heap.size ∧ ∀ j, j < n → W.cell? ⟨g, o + j, none⟩ = some (V j)
theorem RowO.below {W W' : World} {a : Option Addr} {n : Nat} {V : Nat → Value} (h : RowO W a n V) (hb : Below W.heap.size W W') : RowO W' a n V := by
  rcases h with h | ⟨g, o, h1, h2, h3⟩
  · exact .inl h
  · exact .inr ⟨g, o, h1, Nat.lt_of_lt_of_le h2 hb.size, fun j hj => (hb.cell (p := ⟨g, o + j, none⟩) h2).trans (h3 j hj)⟩
theorem Row.o {W : World} {g n : Nat} {V : Nat → Value} (h : Row W g n V) : RowO W (some ⟨g, 0, none⟩) n V := .inr ⟨g, 0, rfl, h.lt, fun j hj => by rw [Nat.zero_add]; exact h.cell j hj⟩
/-- what the program's functions must answer -/
def CkOk : Prop := ∀ (A : Option Addr) (n cap : Nat) (L : List TM.N), L.length = n → n ≤ 9223372036854775807 → (∀ x ∈ L, TM.okN x) → ∀ W, LiesN W A L → ∀ p e, TM.chk L = (p, e) → Calls Try.prog 34 #[.slice A n cap] W fun r w' => r = .returned (.tuple #[.int .i64 p, .int .i64 e]) ∧ Below W.heap.size W w'
def VsOk : Prop := ∀ (A : Option Addr) (n cap : Nat) (L : List TM.N) (r : List Int), L.length = n → TM.Row L → (∀ x ∈ L, TM.okN x) → R.okR r → ∀ W, LiesN W A L → Calls Try.prog 32 #[.slice A n cap, .agg (RB.enc r)] W fun e w' => ∃ a c, e = .returned (.tuple #[.slice a n c, .int .i64 0]) ∧ RowO w' a n (fun j => .int .u32 (TM.val L r j)) ∧ Below W.heap.size W w'
def VsBad : Prop := ∀ (A : Option Addr) (n cap : Nat) (L : List TM.N) (r : List Int), L.length = n → n ≤ 9223372036854775807 → TM.rowB L = false → (∀ x ∈ L, TM.okN x) → R.okR r → ∀ W, LiesN W A L → Calls Try.prog 32 #[.slice A n cap, .agg (RB.enc r)] W fun e w' => ∃ a c, e = .returned (.tuple #[.slice a 0 c, .int .i64 3]) ∧ Below W.heap.size W w'
/-- an answer at a place: by the row, and whether the place is there -/
def atE (L : List TM.N) (i : Int) : Int := if TM.rowB L = false then 3 else if i < 0 ∨ (L.length : Int) ≤ i then 2 else 0
theorem own_new (w : World) : OwnN (w.alloc (.cells #[] 28)) w.heap.size (some ⟨w.heap.size, 0, none⟩) 0 0 [] :=
  ⟨World.ownsRow_lit (base := w.heap.size) (e := 28) (size := 4) w #[] 0 (Nat.le_refl _) (by unfold maxLen; omega) rfl, rfl⟩
theorem run_append_none (a0 : Option Addr) (n cap0 : Nat) (hc : n ≤ cap0) (b : Option Addr) (cap ty : Nat) (W : World) : (Builtin.append_ #[29, 29] ty #[.slice a0 n cap0, .slice b 0 cap]).run Try.prog W = .ok (.slice a0 n cap0) W := by
  obtain ⟨i0, hi, hz0, hz1, hz2⟩ := info_parts infoN
  cases a0 <;> cases b <;> simp [Builtin.append_, run_underlying Try.underlying29, sizeOf, typeInfo, hi, Builtin.lenOf, Builtin.firstCells, storeCells, loadCells, loadCellsFrom, hc]
/-- an append of a row of nodes, or of none -/
theorem wpList_append_nodes {w : World} {ops : Array Oper} {rest : List Oper} {o : Oper} {a : Act} {Q : Exit → Act → World → Prop} (hw : Region.wanted o (yielded ops a.tmps) = true) (s x : Operand)
    (ho : o.op = .call { callee := .builtin .append, args := #[s, x], argTypes := #[29, 29] })
    (base n m cap c : Nat) (a0 ad : Option Addr) (A L : List TM.N) (hs : a.eval s = .slice a0 n cap) (hown : OwnN w base a0 n cap A) (hx : a.eval x = .slice ad m c) (hl : LiesN w ad L) (hm : L.length = m) (hnm : n + m ≤ 65536) (hbase : base ≤ w.heap.size)
    (h : ∀ a' cap' w', OwnN w' base a' (n + m) cap' (A ++ L) → Below base w w' → wpList Try.prog ops Q rest (a.put o.dst (.slice a' (n + m) cap')) w') : wpList Try.prog ops Q (o :: rest) a w := by
  obtain ⟨i0, hi, hz0, hz1, hz2⟩ := info_parts infoN
  rcases Nat.eq_zero_or_pos m with h0 | h0
  · subst h0
    have hLn : L = [] := List.eq_nil_of_length_eq_zero hm
    subst hLn
    refine wpList_step fun K hK => ?_
    rw [if_pos hw]
    have hr := run_append_none a0 n cap hown.cap ad c o.type w
    unfold Oper.wp execOp
    simp only [ho, resolve, invoke, builtin, Sem.run_bind, Sem.run_pure, Result.andThen_ok, List.map_toArray, List.map_cons, List.map_nil, hs, hx, hr]
    have := h a0 cap w (by rw [List.append_nil]; exact hown) (Below.refl _ _)
    exact hK _ _ this
  · obtain ⟨b, o', rfl, hl2⟩ := hl.ly (by omega)
    refine wpList_step fun K hK => ?_
    rw [if_pos hw]
    have hbk : ∀ v, v = Value.slice a0 n cap → v.ownBlock = blk a0 := fun v hv => by subst hv; cases a0 <;> rfl
    refine wp_append_lies w s x 29 ho base 28 i0 (.agg #[.int .i64 0, .int .i64 0, .int .i64 0, .int .u32 0]) 4 32 Try.underlying29 hi hz0 hz1 hz2 rfl (by decide) _ n _ hs hown.own ⟨b, o', none⟩ m c (n4s L) hx (by rw [n4s_len, hm]) (lies_cells hl2) (n4s_one L) h0 (by unfold maxLen; omega) (by omega) hbase w.heap.size rfl ?_
    intro g cap' w' h1 h2 h3 _
    rw [← n4s_append] at h1
    rw [hbk _ rfl] at h2
    exact hK _ _ (h _ _ _ ⟨h1, by rw [List.length_append, hown.len, hm]⟩ (gbelow h2 hbase (fun k hk => by
      obtain ⟨A', e1, e2⟩ := blk_at hk
      have := (hown.at A' e1).1; omega)))

end Go.Proofs.Ytkeigicobcjleab.TB
