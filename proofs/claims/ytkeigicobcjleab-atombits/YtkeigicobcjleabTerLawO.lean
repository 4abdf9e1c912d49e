/-
  The walk of the statement TermOnly where a row may not be, or a root is not there, over what the program's own functions answer.
-/
import Derived.Test.YtkeigicobcjleabTerLawV
import Derived.Test.YtkeigicobcjleabTerArgs
import Derived.Test.YtkeigicobcjleabT1
import Derived.Deep.RegionWith
namespace Go.Proofs.Ytkeigicobcjleab.TB
open Go.ChangeShapes Go.WideShapes Go.ChangeAt Go.RowKit
open Go.Sort hiding Below
set_option linter.unusedVariables false
set_option maxRecDepth 100000

/-- a row of ints of the call's own, as a value -/
structure OwnI (w : World) (base : Nat) (a : Option Addr) (n cap : Nat) (l : List Int) : Prop where
  own : w.ownsRow base 3 1 (.slice a n cap) n (l.map (Value.int .i64))
  len : l.length = n
theorem OwnI.new (w : World) : OwnI (w.alloc (.cells #[] 3)) w.heap.size (some ⟨w.heap.size, 0, none⟩) 0 0 [] :=
  ⟨World.ownsRow_lit (base := w.heap.size) (e := 3) (size := 1) w #[] 0 (Nat.le_refl _) (by unfold maxLen; omega) rfl, rfl⟩
theorem OwnI.cap {w : World} {base n cap : Nat} {a : Option Addr} {l : List Int} (h : OwnI w base a n cap l) : n ≤ cap := by
  rcases h.own.2 with ⟨h1, h2⟩ | ⟨g, c, cur, h1, _, _, h2, _⟩
  · injection h1; omega
  · injection h1 with _ _ h3; omega
theorem OwnI.at {w : World} {base n cap : Nat} {a : Option Addr} {l : List Int} (h : OwnI w base a n cap l) : ∀ A, a = some A → base ≤ A.block ∧ A.block < w.heap.size := by
  rcases h.own.2 with ⟨h1, h2⟩ | ⟨g, c, cur, h1, h2, h3, _⟩
  · injection h1 with h1; intro A hA; rw [h1] at hA; cases hA
  · intro A hA
    injection h1 with h4
    rw [h4] at hA
    cases hA
    exact ⟨h2, (Array.getElem?_eq_some_iff.1 h3).1⟩
theorem OwnI.lies {w : World} {base n cap : Nat} {a : Option Addr} {l : List Int} (h : OwnI w base a n cap l) : LiesI w a l := by
  rcases h.own.2 with ⟨h1, h2⟩ | ⟨g, c, cur, h1, _, _, h2, _⟩
  · left
    have := h.len
    exact List.eq_nil_of_length_eq_zero (by omega)
  · injection h1 with h3 _ h4
    subst h3 h4
    refine .inr ⟨g, 0, rfl, (h.own.lt g rfl).2, fun j hj => ?_⟩
    have hn := h.len
    rw [Nat.zero_add, h.own.cellAt j (by omega), List.getElem?_map, List.getElem?_eq_getElem hj]
    rfl
theorem run_append_noneI (a0 : Option Addr) (n cap0 : Nat) (hc : n ≤ cap0) (b : Option Addr) (cap ty : Nat) (W : World) : (Builtin.append_ #[83, 83] ty #[.slice a0 n cap0, .slice b 0 cap]).run Try.prog W = .ok (.slice a0 n cap0) W := by
  obtain ⟨i0, hi, hz0, hz1, hz2⟩ := info_parts infoi
  cases a0 <;> cases b <;> simp [Builtin.append_, run_underlying Try.underlying83, sizeOf, typeInfo, hi, Builtin.lenOf, Builtin.firstCells, storeCells, loadCells, loadCellsFrom, hc]
theorem wpList_append_ints {w : World} {ops : Array Oper} {rest : List Oper} {o : Oper} {a : Act} {Q : Exit → Act → World → Prop} (hw : Region.wanted o (yielded ops a.tmps) = true) (s x : Operand)
    (ho : o.op = .call { callee := .builtin .append, args := #[s, x], argTypes := #[83, 83] })
    (base n m cap c : Nat) (a0 ad : Option Addr) (A L : List Int) (hs : a.eval s = .slice a0 n cap) (hown : OwnI w base a0 n cap A) (hx : a.eval x = .slice ad m c) (hl : LiesI w ad L) (hm : L.length = m) (hnm : n + m ≤ 65536) (hbase : base ≤ w.heap.size)
    (h : ∀ a' cap' w', OwnI w' base a' (n + m) cap' (A ++ L) → Below base w w' → wpList Try.prog ops Q rest (a.put o.dst (.slice a' (n + m) cap')) w') : wpList Try.prog ops Q (o :: rest) a w := by
  obtain ⟨i0, hi, hz0, hz1, hz2⟩ := info_parts infoi
  rcases Nat.eq_zero_or_pos m with h0 | h0
  · subst h0
    have hLn : L = [] := List.eq_nil_of_length_eq_zero hm
    subst hLn
    refine wpList_step fun K hK => ?_
    rw [if_pos hw]
    have hr := run_append_noneI a0 n cap hown.cap ad c o.type w
    unfold Oper.wp execOp
    simp only [ho, resolve, invoke, builtin, Sem.run_bind, Sem.run_pure, Result.andThen_ok, List.map_toArray, List.map_cons, List.map_nil, hs, hx, hr]
    have := h a0 cap w (by rw [List.append_nil]; exact hown) (Below.refl _ _)
    exact hK _ _ this
  · obtain ⟨b, o', rfl, _, hl2⟩ := hl.at (by omega)
    refine wpList_step fun K hK => ?_
    rw [if_pos hw]
    have hbk : ∀ v, v = Value.slice a0 n cap → v.ownBlock = blk a0 := fun v hv => by subst hv; cases a0 <;> rfl
    refine wp_append_lies w s x 83 ho base 3 i0 (.int .i64 0) 1 8 Try.underlying83 hi hz0 hz1 hz2 rfl (by decide) _ n _ hs hown.own ⟨b, o', none⟩ m c (L.map (Value.int .i64)) hx (by rw [List.length_map, hm]; omega) (fun j u hu => by
      have hj : j < L.length := by have := (List.getElem?_eq_some_iff.1 hu).1; simpa using this
      rw [List.getElem?_map, List.getElem?_eq_getElem hj] at hu
      injection hu with hu
      subst hu
      rw [show (⟨b, o', none⟩ : Addr).add j = ⟨b, o' + j, none⟩ from by simp [Addr.add]]
      exact hl2 j hj) (fun u hu => by obtain ⟨z, _, rfl⟩ := List.mem_map.1 hu; rfl) h0 (by unfold maxLen; omega) (by omega) hbase w.heap.size rfl ?_
    intro g cap' w' h1 h2 h3 _
    rw [← List.map_append] at h1
    rw [hbk _ rfl] at h2
    exact hK _ _ (h _ _ _ ⟨h1, by rw [List.length_append, hown.len, hm]⟩ (gbelow h2 hbase (fun k hk => by
      obtain ⟨A', e1, e2⟩ := blk_at hk
      have := (hown.at A' e1).1; omega)))

def inB (L : List TM.N) (R : List Int) : Prop := ∀ x ∈ R, 0 ≤ x ∧ x < (L.length : Int)
end Go.Proofs.Ytkeigicobcjleab.TB
