/-
  The walk of the statement TermOnly where a row may not be, or a root is not there, over what the program's own functions answer.
-/
import Derived.Test.YtmjeoknndnbglaaTerLawU
import Derived.Test.YtmjeoknndnbglaaTerArgs
import Derived.Test.YtmjeoknndnbglaaT1
import Derived.Deep.RegionWith
namespace Go.Proofs.Ytmjeoknndnbglaa.TB
open Go.ChangeShapes Go.WideShapes Go.ChangeAt Go.RowKit
open Go.Sort hiding Below
set_option linter.unusedVariables false
set_option maxRecDepth 100000

/-- a row of ints of the call's own, as a value -/
structure OwnI (w : World) (base : Nat) (a : Option Addr) (n cap : Nat) (l : List Int) : Prop where
  own : w.ownsRow base 3 1 (.slice a n cap) n (l.map (Value.int .i64))
  len : l.length = n
theorem OwnI.new (w : World) : OwnI (w.alloc (.cells #[] 3)) w.heap.size (some ⟨w.heap.size, 0, none⟩) 0 0 [] :=
  ⟨World.ownsRow_lit (base := w.heap.size) (e := 3) (size := 1) w #[] 0 (Nat.le_refl _) (by unfold maxLen; omega) rfl, rfl⟩
theorem OwnI.cap {w : World} {base n cap : Nat} {a : Option Addr} {l : List Int} (h : OwnI w base a n cap l) : n ≤ cap := by
  rcases h.own.2 with ⟨h1, h2⟩ | ⟨g, c, cur, h1, _, _, h2, _⟩
  · injection h1; omega
  · injection h1 with _ _ h3; omega
theorem OwnI.at {w : World} {base n cap : Nat} {a : Option Addr} {l : List Int} (h : OwnI w base a n cap l) : ∀ A, a = some A → base ≤ A.block ∧ A.block < w.heap.size := by
  rcases h.own.2 with ⟨h1, h2⟩ | ⟨g, c, cur, h1, h2, h3, _⟩
  · injection h1 with h1; intro A hA; rw [h1] at hA; cases hA
  · intro A hA
    injection h1 with h4
    rw [h4] at hA
    cases hA
    exact ⟨h2, (Array.getElem?_eq_some_iff.1 h3).1⟩
theorem OwnI.lies {w : World} {base n cap : Nat} {a : Option Addr} {l : List Int} (h : OwnI w base a n cap l) : LiesI w a l := by
  rcases h.own.2 with ⟨h1, h2⟩ | ⟨g, c, cur, h1, _, _, h2, _⟩
  · left
    have := h.len
    exact List.eq_nil_of_length_eq_zero (by omega)
  · injection h1 with h3 _ h4
    subst h3 h4
    refine .inr ⟨g, 0, rfl, (h.own.lt g rfl).2, fun j hj => ?_⟩
    have hn := h.len
    rw [Nat.zero_add, h.own.cellAt j (by omega), List.getElem?_map, List.getElem?_eq_getElem hj]
    rfl
theorem run_append_noneI (a0 : Option Addr) (n cap0 : Nat) (hc : n ≤ cap0) (b : Option Addr) (cap ty : Nat) (W : World) : (Builtin.append_ #[52, 52] ty #[.slice a0 n cap0, .slice b 0 cap]).run Try.prog W = .ok (.slice a0 n cap0) W := by
  obtain ⟨i0, hi, hz0, hz1, hz2⟩ := info_parts infoi
  cases a0 <;> cases b <;> simp [Builtin.append_, run_underlying Try.underlying52, sizeOf, typeInfo, hi, Builtin.lenOf, Builtin.firstCells, storeCells, loadCells, loadCellsFrom, hc]
theorem wpList_append_ints {w : World} {ops : Array Oper} {rest : List Oper} {o : Oper} {a : Act} {Q : Exit → Act → World → Prop} (hw : Region.wanted o (yielded ops a.tmps) = true) (s x : Operand)
    (ho : o.op = .call { callee := .builtin .append, args := #[s, x], argTypes := #[52, 52] })
    (base n m cap c : Nat) (a0 ad : Option Addr) (A L : List Int) (hs : a.eval s = .slice a0 n cap) (hown : OwnI w base a0 n cap A) (hx : a.eval x = .slice ad m c) (hl : LiesI w ad L) (hm : L.length = m) (hnm : n + m ≤ 65536) (hbase : base ≤ w.heap.size)
    (h : ∀ a' cap' w', OwnI w' base a' (n + m) cap' (A ++ L) → Below base w w' → wpList Try.prog ops Q rest (a.put o.dst (.slice a' (n + m) cap')) w') : wpList Try.prog ops Q (o :: rest) a w := by
  obtain ⟨i0, hi, hz0, hz1, hz2⟩ := info_parts infoi
  rcases Nat.eq_zero_or_pos m with h0 | h0
  · subst h0
    have hLn : L = [] := List.eq_nil_of_length_eq_zero hm
    subst hLn
    refine wpList_step fun K hK => ?_
    rw [if_pos hw]
    have hr := run_append_noneI a0 n cap hown.cap ad c o.type w
    unfold Oper.wp execOp
    simp only [ho, resolve, invoke, builtin, Sem.run_bind, Sem.run_pure, Result.andThen_ok, List.map_toArray, List.map_cons, List.map_nil, hs, hx, hr]
    have := h a0 cap w (by rw [List.append_nil]; exact hown) (Below.refl _ _)
    exact hK _ _ this
  · obtain ⟨b, o', rfl, _, hl2⟩ := hl.at (by omega)
    refine wpList_step fun K hK => ?_
    rw [if_pos hw]
    have hbk : ∀ v, v = Value.slice a0 n cap → v.ownBlock = blk a0 := fun v hv => by subst hv; cases a0 <;> rfl
    refine wp_append_lies w s x 52 ho base 3 i0 (.int .i64 0) 1 8 Try.underlying52 hi hz0 hz1 hz2 rfl (by decide) _ n _ hs hown.own ⟨b, o', none⟩ m c (L.map (Value.int .i64)) hx (by rw [List.length_map, hm]; omega) (fun j u hu => by
      have hj : j < L.length := by have := (List.getElem?_eq_some_iff.1 hu).1; simpa using this
      rw [List.getElem?_map, List.getElem?_eq_getElem hj] at hu
      injection hu with hu
      subst hu
      rw [show (⟨b, o', none⟩ : Addr).add j = ⟨b, o' + j, none⟩ from by simp [Addr.add]]
      exact hl2 j hj) (fun u hu => by obtain ⟨z, _, rfl⟩ := List.mem_map.1 hu; rfl) h0 (by unfold maxLen; omega) (by omega) hbase w.heap.size rfl ?_
    intro g cap' w' h1 h2 h3 _
    rw [← List.map_append] at h1
    rw [hbk _ rfl] at h2
    exact hK _ _ (h _ _ _ ⟨h1, by rw [List.length_append, hown.len, hm]⟩ (gbelow h2 hbase (fun k hk => by
      obtain ⟨A', e1, e2⟩ := blk_at hk
      have := (hown.at A' e1).1; omega)))

def inB (L : List TM.N) (R : List Int) : Prop := ∀ x ∈ R, 0 ≤ x ∧ x < (L.length : Int)
def OnBad : Prop := ∀ (A : Option Addr) (n cap : Nat) (L : List TM.N) (B : Option Addr) (m cap' : Nat) (R : List Int), L.length = n → R.length = m → n ≤ 9223372036854775807 → (∀ x ∈ L, TM.okN x) → TM.rowB L = false → ∀ W, LiesN W A L → LiesI W B R → Calls Try.prog 21 #[.slice A n cap, .slice B m cap'] W fun e w' => ∃ a c b d, e = .returned (.tuple #[.slice a 0 c, .slice b 0 d, .int .i64 3]) ∧ Below W.heap.size W w'
def OnOut : Prop := ∀ (A : Option Addr) (n cap : Nat) (L : List TM.N) (B : Option Addr) (m cap' : Nat) (R : List Int), L.length = n → R.length = m → m ≤ 65536 → (∀ x ∈ L, TM.okN x) → TM.Row L → ¬ inB L R → (∀ i ∈ R, -9223372036854775808 ≤ i ∧ i < 9223372036854775808) → ∀ W, LiesN W A L → LiesI W B R → Calls Try.prog 21 #[.slice A n cap, .slice B m cap'] W fun e w' => ∃ a c b d, e = .returned (.tuple #[.slice a 0 c, .slice b 0 d, .int .i64 2]) ∧ Below W.heap.size W w'
def OnOk : Prop := ∀ (A : Option Addr) (n cap : Nat) (L : List TM.N) (B : Option Addr) (m cap' : Nat) (R : List Int), L.length = n → R.length = m → m ≤ 65536 → (∀ x ∈ L, TM.okN x) → TM.Row L → inB L R → ∀ W, LiesN W A L → LiesI W B R → Calls Try.prog 21 #[.slice A n cap, .slice B m cap'] W fun e w' => ∃ a c b d, e = .returned (.tuple #[.slice a (TM.onlyL L R).length c, .slice b m d, .int .i64 0]) ∧ LiesN w' a (TM.onlyL L R) ∧ RowO w' b m (fun j => .int .i64 ((TM.cnP (TM.inR L R) (R.getD j 0).toNat : Nat) : Int)) ∧ Below W.heap.size W w'

set_option maxHeartbeats 1600000 in
set_option maxRecDepth 100000 in
theorem tonly_big (hAw : Aw11) (A : Option Addr) (n cap : Nat) (B : Option Addr) (m cap' : Nat) (r : List Int) (hn : 100 < n ∨ 20 < m) (w : World) :
    Calls Try.prog 6 #[.slice A n cap, .slice B m cap', .agg (RB.enc r)] w fun e w' => e = .returned (.bool true) ∧ Below w.heap.size w w' := by
  have HB := hid (al w (.cells (RB.enc r) 25))
  have HAw := hid hAw
  clear hAw
  by_cases h1 : 100 < n
  · have hd : decide (100 < (n : Int)) = true := decide_eq_true (by omega)
    clear hn h1
    go_enter Try.func6, Try.ntmps6
    go_wp2_with fail
    refine (HAw.out _).mono ?_
    rintro e w1 ⟨rfl, hb⟩
    replace HB := stp HB hb
    clear hb
    go_wp2_with fail
    refine (HAw.out _).mono ?_
    rintro e w2 ⟨rfl, hb⟩
    replace HB := stp HB hb
    clear hb
    go_wp2
    go_ret
    exact ⟨rfl, HB.out⟩
  · have hd : decide (100 < (n : Int)) = false := decide_eq_false (by omega)
    have hd2 : decide (20 < (m : Int)) = true := decide_eq_true (by omega)
    clear hn h1
    go_enter Try.func6, Try.ntmps6
    go_wp2_with fail
    refine (HAw.out _).mono ?_
    rintro e w1 ⟨rfl, hb⟩
    replace HB := stp HB hb
    clear hb
    go_wp2_with fail
    refine (HAw.out _).mono ?_
    rintro e w2 ⟨rfl, hb⟩
    replace HB := stp HB hb
    clear hb
    go_wp2
    go_ret
    exact ⟨rfl, HB.out⟩

set_option maxHeartbeats 3200000 in
set_option maxRecDepth 1000000 in
theorem tonly_bad (hAw : Aw11) (hOn : OnBad) (A : Option Addr) (n cap : Nat) (B : Option Addr) (m cap' : Nat) (r : List Int) (l : List TM.N) (R : List Int) (hln : l.length = n) (hlm : R.length = m) (hn : n ≤ 100) (hm : m ≤ 20) (ok : ∀ x ∈ l, TM.okN x) (hr : TM.rowB l = false) (w : World) (hl : LiesN w A l) (hR : LiesI w B R) :
    Calls Try.prog 6 #[.slice A n cap, .slice B m cap', .agg (RB.enc r)] w fun e w' => e = .returned (.bool true) ∧ Below w.heap.size w w' := by
  have hd : decide (100 < (n : Int)) = false := decide_eq_false (by omega)
  have hd2 : decide (20 < (m : Int)) = false := decide_eq_false (by omega)
  have HB := hid (al w (.cells (RB.enc r) 25))
  have HAw := hid hAw
  have HRt := hid (fun W (h : LiesN W A l) => rrow_any A n cap l hln (by omega) ok W h false hr)
  have HOn := hid (fun a c b d W (h : LiesN W a l) (h2 : LiesI W b R) => hOn a n c l b m d R hln hlm (by omega) ok hr W h h2)
  have HH := hid (And.intro hln (And.intro hl (And.intro hlm hR)))
  clear hAw hOn hln hlm ok hr hl hR
  go_enter Try.func6, Try.ntmps6
  go_wp2_with fail
  refine (HAw.out _).mono ?_
  rintro e w1 ⟨rfl, hb⟩
  replace HB := stp HB hb
  clear hb HAw
  go_wp2_with (at_builtin; refine wpList_append_nodes (by rfl) _ _ rfl w1.heap.size 0 n 0 cap (some ⟨w1.heap.size, 0, none⟩) A [] l rfl (own_new w1) rfl (HH.out.2.1.below (stp HB (al _ _)).out) HH.out.1 (by omega) (by simp) ?_)
  intro a2 cap2 w2 hown hb
  try simp only [Nat.zero_add, List.nil_append] at hown
  have hb2 := (al w1 (.cells #[] 56)).trans hb
  replace HB := stp HB hb2
  have HO1 := hid hown
  clear hown hb hb2
  try simp only [Nat.zero_add]
  go_wp2_with (at_builtin; refine wpList_append_ints (by rfl) _ _ rfl w2.heap.size 0 m 0 cap' (some ⟨w2.heap.size, 0, none⟩) B [] R rfl (OwnI.new w2) rfl (HH.out.2.2.2.below (stp HB (al _ _)).out) HH.out.2.2.1 (by omega) (by simp) ?_)
  intro a3 cap3 w3 hown hb
  try simp only [Nat.zero_add, List.nil_append] at hown
  have hb2 := (al w2 (.cells #[] 3)).trans hb
  replace HB := stp HB hb2
  have HO := hid (And.intro (HO1.out.lies.below hb2) hown.lies)
  clear hown hb hb2 HO1
  try simp only [Nat.zero_add]
  go_wp2_with fail
  refine (HOn.out _ _ _ _ _ HO.out.1 HO.out.2).mono ?_
  rintro e w4 ⟨a4, c4, b4, d4, rfl, hb⟩
  replace HB := stp HB hb
  clear hb HO HOn
  go_wp2_with fail
  refine (HRt.out _ (HH.out.2.1.below HB.out)).mono ?_
  rintro e w5 ⟨rfl, hb⟩
  replace HB := stp HB hb
  clear hb
  go_wp2
  go_ret
  exact ⟨rfl, HB.out⟩
end Go.Proofs.Ytmjeoknndnbglaa.TB
