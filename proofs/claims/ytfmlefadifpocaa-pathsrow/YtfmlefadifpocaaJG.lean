/-
  The few answers that the document fixes, as a walk over the Go text: they are as it says.
-/
import Derived.Test.YtfmlefadifpocaaHR
import Derived.Test.YtfmlefadifpocaaH4
namespace Go.Proofs.Ytfmlefadifpocaa.B
open Go.ChangeShapes Go.WideShapes Go.ChangeAt Go.RowKit
open Go.Sort hiding Below
set_option linter.unusedVariables false

def r6 : M.I := (6, 0, 0, 0)
def l1 : List M.I := [(96, 0, 0, 0), r6]
def l2 : List M.I := [(2, 0, 0, 3), (96, 0, 0, 3), r6]
def l3 : List M.I := [r6, (32, 0, 0, 2), r6]
def l4 : List M.I := [r6, (0, 0, 0, 0)]
def l6 : List M.I := [(5, 0, 0, 4294967295), r6]
def l7 : List M.I := [(2, 0, 0, 3), r6]
def l8 : List M.I := [r6]
theorem aw1 : M.check l1 = (0, 10) := by decide +kernel
theorem aw2 : M.check l2 = (0, 0) := by decide +kernel
theorem aw3 : M.check l3 = (1, 11) := by decide +kernel
theorem aw4 : M.check l4 = (1, 12) := by decide +kernel
theorem aw5 : M.check [] = (0, 4) := by decide +kernel
theorem aw6 : M.check l6 = (0, 7) := by decide +kernel
theorem aw7 : (M.wa l7).2 = 0 ∧ M.wr l7 0 = 0 ∧ M.wr l7 1 = 8 := by decide +kernel
theorem aw8 : M.rightB l8 = true := by decide +kernel
theorem okl : (∀ i ∈ l1, M.okI i) ∧ (∀ i ∈ l2, M.okI i) ∧ (∀ i ∈ l3, M.okI i) ∧ (∀ i ∈ l4, M.okI i) ∧ (∀ i ∈ l6, M.okI i) ∧ (∀ i ∈ l7, M.okI i) ∧ (∀ i ∈ l8, M.okI i) := by
  unfold M.okI; decide
theorem lies_lit (w : World) (l : List M.I) (n : Nat) (hn : l.length = n) (hm : n ≤ maxLen) : Lies (w.alloc (.cells (i4s l).toArray 38)) (some ⟨w.heap.size, 0, none⟩) l :=
  lies_of_own (n := n) (cap := n) (World.ownsRow_lit (base := w.heap.size) (e := 38) (size := 4) w (i4s l).toArray n (Nat.le_refl _) hm (by simp [i4s_len, hn])) hn

theorem results_one {fn : Func} (h : fn.results = #[.cell 0 38]) (tmps : Array Value) (w : World) {b : Nat} {c t f k : Int} (hp : tmps[0]?.getD undef = .pointer (some ⟨b, 0, none⟩)) (hA : At w b c t f k) :
    (results fn tmps).run Try.prog w = .ok (.agg #[.int .u16 c, .int .u8 t, .int .u8 f, .int .u32 k]) w := by
  obtain ⟨a0, a1, a2, a3, a4⟩ := hA.cells
  simp [results, h, hp, go_sem, a0, a1, a2, a3]
theorem ck (g n : Nat) (l : List M.I) (hn : l.length = n) (hs : n ≤ 9223372036854775807) (ok : ∀ i ∈ l, M.okI i) (p : Nat) (e0 : Int) (hp : M.check l = (p, e0)) (w : World) (hl : Lies w (some ⟨g, 0, none⟩) l) :
    Calls Try.prog 27 #[.slice (some ⟨g, 0, none⟩) n n] w fun e w' => e = .returned (.tuple #[.int .i64 (p : Int), .int .i64 e0]) ∧ Below w.heap.size w w' := check_any _ n n l hn hs ok w hl p e0 hp

end Go.Proofs.Ytfmlefadifpocaa.B
namespace Go.Proofs.Ytfmlefadifpocaa.B
open Go.ChangeShapes Go.WideShapes Go.ChangeAt Go.RowKit
set_option linter.unusedVariables false

theorem run_append_none (a0 : Option Addr) (n cap0 : Nat) (hc : n ≤ cap0) (b : Option Addr) (cap ty : Nat) (W : World) : (Builtin.append_ #[22, 22] ty #[.slice a0 n cap0, .slice b 0 cap]).run Try.prog W = .ok (.slice a0 n cap0) W := by
  obtain ⟨i0, hi, hz0, hz1, hz2⟩ := info_parts info39
  cases a0 <;> cases b <;> simp [Builtin.append_, run_underlying Try.underlying22, sizeOf, typeInfo, hi, Builtin.lenOf, Builtin.firstCells, storeCells, loadCells, loadCellsFrom, hc]

/-- the row of the call's own, as a value -/
structure Own (w : World) (base : Nat) (a : Option Addr) (n cap : Nat) (l : List M.I) : Prop where
  own : w.ownsRow base 38 4 (.slice a n cap) n (i4s l)
  len : l.length = n
theorem Own.cap {w : World} {base n cap : Nat} {a : Option Addr} {l : List M.I} (h : Own w base a n cap l) : n ≤ cap := by
  rcases h.own.2 with ⟨h1, h2⟩ | ⟨g, c, cur, h1, _, _, h2, _⟩
  · injection h1; omega
  · injection h1 with _ _ h3; omega
theorem Own.lies {w : World} {base n cap : Nat} {a : Option Addr} {l : List M.I} (h : Own w base a n cap l) : Lies w a l := by
  rcases h.own.2 with ⟨h1, h2⟩ | ⟨g, c, cur, h1, _, _, h2, _⟩
  · left
    have := h.len
    exact List.eq_nil_of_length_eq_zero (by omega)
  · injection h1 with h3 _ h4
    subst h3 h4
    exact lies_of_own h.own h.len
theorem Own.below {w w' : World} {base n cap : Nat} {a : Option Addr} {l : List M.I} (h : Own w base a n cap l) (hb : Below w.heap.size w w') : Own w' base a n cap l := ⟨own_below h.own hb, h.len⟩
theorem Own.new (w : World) : Own (w.alloc (.cells #[] 38)) w.heap.size (some ⟨w.heap.size, 0, none⟩) 0 0 [] := ⟨own_empty w, rfl⟩
theorem Own.nil (w : World) (base : Nat) : Own w base none 0 0 [] := ⟨World.ownsRow_nil w base _ _, rfl⟩
theorem Own.mono {w : World} {base base' n cap : Nat} {a : Option Addr} {l : List M.I} (h : Own w base a n cap l) (hb : base' ≤ base) : Own w base' a n cap l :=
  ⟨⟨h.own.1, by
    rcases h.own.2 with h1 | ⟨g, c, cur, h1, h2, h3⟩
    · exact .inl h1
    · exact .inr ⟨g, c, cur, h1, Nat.le_trans hb h2, h3⟩⟩, h.len⟩

theorem wpList_append_row {w : World} {ops : Array Oper} {rest : List Oper} {o : Oper} {a : Act} {Q : Exit → Act → World → Prop} (hw : Region.wanted o (yielded ops a.tmps) = true) (s x : Operand)
    (ho : o.op = .call { callee := .builtin .append, args := #[s, x], argTypes := #[22, 22] })
    (base n m cap c : Nat) (a0 ad : Option Addr) (A L : List M.I) (hs : a.eval s = .slice a0 n cap) (hown : Own w base a0 n cap A) (hx : a.eval x = .slice ad m c) (hl : Lies w ad L) (hm : L.length = m) (hnm : n + m ≤ 65536) (hbase : base ≤ w.heap.size)
    (h : ∀ a' cap' w', Own w' base a' (n + m) cap' (A ++ L) → Below base w w' → wpList Try.prog ops Q rest (a.put o.dst (.slice a' (n + m) cap')) w') : wpList Try.prog ops Q (o :: rest) a w := by
  obtain ⟨i0, hi, hz0, hz1, hz2⟩ := info_parts info39
  rcases Nat.eq_zero_or_pos m with h0 | h0
  · subst h0
    have hLn : L = [] := List.eq_nil_of_length_eq_zero hm
    subst hLn
    refine wpList_step fun K hK => ?_
    rw [if_pos hw]
    have hr := run_append_none a0 n cap hown.cap ad c o.type w
    unfold Oper.wp execOp
    simp only [ho, resolve, invoke, builtin, Sem.run_bind, Sem.run_pure, Result.andThen_ok, List.map_toArray, List.map_cons, List.map_nil, hs, hx, hr]
    have := h a0 cap w (by rw [List.append_nil]; exact hown) (Below.refl _ _)
    exact hK _ _ this
  · rcases hl with hl | ⟨b, o', rfl, hb, hl⟩
    · rw [hl] at hm; simp at hm; omega
    refine wpList_append_g hw s x 22 ho base 38 i0 (.agg #[.int .u16 0, .int .u8 0, .int .u8 0, .int .u32 0]) 4 8 Try.underlying22 hi hz0 hz1 hz2 rfl (by decide) _ n _ hs hown.own ⟨b, o', none⟩ m c (i4s L) hx (by rw [i4s_len, hm]) (lies_cells (.inr ⟨b, o', rfl, hb, hl⟩)) (i4s_one L) h0 (by unfold maxLen; omega) (by omega) hbase w.heap.size rfl ?_
    intro g cap' w' h1 h2 _ _
    rw [← i4s_append] at h1
    exact h _ _ _ ⟨h1, by rw [List.length_append, hown.len, hm]⟩ ((Below.refl base w).grown h2 hbase (fun k hk => (hown.own.lt k hk).1))
end Go.Proofs.Ytfmlefadifpocaa.B
