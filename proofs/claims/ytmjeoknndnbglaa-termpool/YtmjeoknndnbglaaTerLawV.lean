/-
  The walk of the statement TermValues, over what the program's own functions answer.
-/
import Derived.Test.YtmjeoknndnbglaaTerRefG
import Derived.Test.YtmjeoknndnbglaaTerRefD
namespace Go.Proofs.Ytmjeoknndnbglaa.TB
open Go.ChangeShapes Go.WideShapes Go.ChangeAt Go.RowKit
open Go.Sort hiding Below
set_option linter.unusedVariables false
set_option maxRecDepth 100000

/-- cells that a slice holds -/
def RowO (W : World) (a : Option Addr) (n : Nat) (V : Nat → Value) : Prop := n = 0 ∨ ∃ g o, a = some ⟨g, o, none⟩ ∧ g < W.heap.size ∧ ∀ j, j < n → W.cell? ⟨g, o + j, none⟩ = some (V j)
theorem RowO.below {W W' : World} {a : Option Addr} {n : Nat} {V : Nat → Value} (h : RowO W a n V) (hb : Below W.heap.size W W') : RowO W' a n V := by
  rcases h with h | ⟨g, o, h1, h2, h3⟩
  · exact .inl h
  · exact .inr ⟨g, o, h1, Nat.lt_of_lt_of_le h2 hb.size, fun j hj => (hb.cell (p := ⟨g, o + j, none⟩) h2).trans (h3 j hj)⟩
theorem Row.o {W : World} {g n : Nat} {V : Nat → Value} (h : Row W g n V) : RowO W (some ⟨g, 0, none⟩) n V := .inr ⟨g, 0, rfl, h.lt, fun j hj => by rw [Nat.zero_add]; exact h.cell j hj⟩
def Aw11 : Prop := ∀ W, Calls Try.prog 9 #[] W fun e w' => e = .returned (.bool true) ∧ Below W.heap.size W w'
/-- what the program's functions must answer -/
def CkOk : Prop := ∀ (A : Option Addr) (n cap : Nat) (L : List TM.N), L.length = n → n ≤ 9223372036854775807 → (∀ x ∈ L, TM.okN x) → ∀ W, LiesN W A L → ∀ p e, TM.chk L = (p, e) → Calls Try.prog 10 #[.slice A n cap] W fun r w' => r = .returned (.tuple #[.int .i64 p, .int .i64 e]) ∧ Below W.heap.size W w'
def VsOk : Prop := ∀ (A : Option Addr) (n cap : Nat) (L : List TM.N) (r : List Int), L.length = n → TM.Row L → (∀ x ∈ L, TM.okN x) → R.okR r → ∀ W, LiesN W A L → Calls Try.prog 12 #[.slice A n cap, .agg (RB.enc r)] W fun e w' => ∃ a c, e = .returned (.tuple #[.slice a n c, .int .i64 0]) ∧ RowO w' a n (fun j => .int .u32 (TM.val L r j)) ∧ Below W.heap.size W w'
def VsBad : Prop := ∀ (A : Option Addr) (n cap : Nat) (L : List TM.N) (r : List Int), L.length = n → n ≤ 9223372036854775807 → TM.rowB L = false → (∀ x ∈ L, TM.okN x) → R.okR r → ∀ W, LiesN W A L → Calls Try.prog 12 #[.slice A n cap, .agg (RB.enc r)] W fun e w' => ∃ a c, e = .returned (.tuple #[.slice a 0 c, .int .i64 3]) ∧ Below W.heap.size W w'
/-- an answer at a place: by the row, and whether the place is there -/
def atE (L : List TM.N) (i : Int) : Int := if TM.rowB L = false then 3 else if i < 0 ∨ (L.length : Int) ≤ i then 2 else 0
def VlOk : Prop := ∀ (A : Option Addr) (n cap : Nat) (L : List TM.N) (r : List Int) (i : Int), L.length = n → n ≤ 9223372036854775807 → n ≤ cap → (∀ x ∈ L, TM.okN x) → R.okR r → (Lit.int .i64 i).wf = true → ∀ W, LiesN W A L → Calls Try.prog 13 #[.slice A n cap, .int .i64 i, .agg (RB.enc r)] W fun e w' => e = .returned (.tuple #[.int .u32 (if atE L i = 0 then TM.val L r i.toNat else 0), .int .i64 (atE L i)]) ∧ Below W.heap.size W w'

theorem own_new (w : World) : OwnN (w.alloc (.cells #[] 56)) w.heap.size (some ⟨w.heap.size, 0, none⟩) 0 0 [] :=
  ⟨World.ownsRow_lit (base := w.heap.size) (e := 56) (size := 4) w #[] 0 (Nat.le_refl _) (by unfold maxLen; omega) rfl, rfl⟩
theorem run_append_none (a0 : Option Addr) (n cap0 : Nat) (hc : n ≤ cap0) (b : Option Addr) (cap ty : Nat) (W : World) : (Builtin.append_ #[22, 22] ty #[.slice a0 n cap0, .slice b 0 cap]).run Try.prog W = .ok (.slice a0 n cap0) W := by
  obtain ⟨i0, hi, hz0, hz1, hz2⟩ := info_parts infoN
  cases a0 <;> cases b <;> simp [Builtin.append_, run_underlying Try.underlying22, sizeOf, typeInfo, hi, Builtin.lenOf, Builtin.firstCells, storeCells, loadCells, loadCellsFrom, hc]
/-- an append of a row of nodes, or of none -/
theorem wpList_append_nodes {w : World} {ops : Array Oper} {rest : List Oper} {o : Oper} {a : Act} {Q : Exit → Act → World → Prop} (hw : Region.wanted o (yielded ops a.tmps) = true) (s x : Operand)
    (ho : o.op = .call { callee := .builtin .append, args := #[s, x], argTypes := #[22, 22] })
    (base n m cap c : Nat) (a0 ad : Option Addr) (A L : List TM.N) (hs : a.eval s = .slice a0 n cap) (hown : OwnN w base a0 n cap A) (hx : a.eval x = .slice ad m c) (hl : LiesN w ad L) (hm : L.length = m) (hnm : n + m ≤ 65536) (hbase : base ≤ w.heap.size)
    (h : ∀ a' cap' w', OwnN w' base a' (n + m) cap' (A ++ L) → Below base w w' → wpList Try.prog ops Q rest (a.put o.dst (.slice a' (n + m) cap')) w') : wpList Try.prog ops Q (o :: rest) a w := by
  obtain ⟨i0, hi, hz0, hz1, hz2⟩ := info_parts infoN
  rcases Nat.eq_zero_or_pos m with h0 | h0
  · subst h0
    have hLn : L = [] := List.eq_nil_of_length_eq_zero hm
    subst hLn
    refine wpList_step fun K hK => ?_
    rw [if_pos hw]
    have hr := run_append_none a0 n cap hown.cap ad c o.type w
    unfold Oper.wp execOp
    simp only [ho, resolve, invoke, builtin, Sem.run_bind, Sem.run_pure, Result.andThen_ok, List.map_toArray, List.map_cons, List.map_nil, hs, hx, hr]
    have := h a0 cap w (by rw [List.append_nil]; exact hown) (Below.refl _ _)
    exact hK _ _ this
  · obtain ⟨b, o', rfl, hl2⟩ := hl.ly (by omega)
    refine wpList_step fun K hK => ?_
    rw [if_pos hw]
    have hbk : ∀ v, v = Value.slice a0 n cap → v.ownBlock = blk a0 := fun v hv => by subst hv; cases a0 <;> rfl
    refine wp_append_lies w s x 22 ho base 56 i0 (.agg #[.int .i64 0, .int .i64 0, .int .i64 0, .int .u32 0]) 4 32 Try.underlying22 hi hz0 hz1 hz2 rfl (by decide) _ n _ hs hown.own ⟨b, o', none⟩ m c (n4s L) hx (by rw [n4s_len, hm]) (lies_cells hl2) (n4s_one L) h0 (by unfold maxLen; omega) (by omega) hbase w.heap.size rfl ?_
    intro g cap' w' h1 h2 h3 _
    rw [← n4s_append] at h1
    rw [hbk _ rfl] at h2
    exact hK _ _ (h _ _ _ ⟨h1, by rw [List.length_append, hown.len, hm]⟩ (gbelow h2 hbase (fun k hk => by
      obtain ⟨A', e1, e2⟩ := blk_at hk
      have := (hown.at A' e1).1; omega)))

set_option maxHeartbeats 1600000 in
set_option maxRecDepth 100000 in
theorem tvals_big (hAw : Aw11) (A : Option Addr) (n cap : Nat) (r : List Int) (i : Int) (hn : 300 < n) (hk : R.okR r) (w : World) :
    Calls Try.prog 3 #[.slice A n cap, .agg (RB.enc r), .int .i64 i] w fun e w' => e = .returned (.bool true) ∧ Below w.heap.size w w' := by
  have hd : decide (300 < (n : Int)) = true := decide_eq_true (by omega)
  have HB := hid (al w (.cells (RB.enc r) 25))
  have HAw := hid hAw
  clear hn hAw
  go_enter Try.func3, Try.ntmps3
  go_wp2_with fail
  refine (HAw.out _).mono ?_
  rintro e w1 ⟨rfl, hb⟩
  replace HB := stp HB hb
  clear hb
  go_wp2_with fail
  refine (HAw.out _).mono ?_
  rintro e w2 ⟨rfl, hb⟩
  replace HB := stp HB hb
  clear hb
  go_wp2
  go_ret
  exact ⟨rfl, HB.out⟩

set_option maxHeartbeats 6400000 in
set_option maxRecDepth 1000000 in
theorem tvals_small (hAw : Aw11) (hCk : CkOk) (hVs : VsOk) (hVb : VsBad) (hVl : VlOk) (A : Option Addr) (n cap : Nat) (r : List Int) (i : Int) (hi : (Lit.int .i64 i).wf = true) (l : List TM.N) (hln : l.length = n) (hn : n ≤ 300) (hcap : n ≤ cap) (ok : ∀ x ∈ l, TM.okN x) (hk : R.okR r) (w : World) (hl : LiesN w A l) :
    Calls Try.prog 3 #[.slice A n cap, .agg (RB.enc r), .int .i64 i] w fun e w' => e = .returned (.bool true) ∧ Below w.heap.size w w' := by
  have hd : decide (300 < (n : Int)) = false := decide_eq_false (by omega)
  have hX := RB.lcf_eq
  have hsz16 := RB.enc_size hk.1
  have HRc := hid (RB.Rec.new w r hk.1)
  have HB := hid (al w (.cells (RB.enc r) 25))
  have hsz : w.heap.size < (w.alloc (.cells (RB.enc r) 25)).heap.size := by simp
  have HAw := hid hAw
  obtain ⟨p, e, hc⟩ : ∃ p e, TM.chk l = (p, e) := ⟨_, _, rfl⟩
  have HCk := hid (fun a c W (h : LiesN W a l) => hCk a n c l hln (by omega) ok W h p e hc)
  have HCr := hid (fun W (h : LiesN W A l) => rcheck_any A n cap l hln (by omega) ok W h p e hc)
  have HVl := hid (fun W (h : LiesN W A l) => hVl A n cap l r i hln (by omega) hcap ok hk hi W h)
  have hrow : TM.rowB l = (e == 0) := by unfold TM.rowB; rw [hc]
  have HH := hid (And.intro hln (And.intro hl hc))
  have HRow := hid hrow
  have hpp : ∀ x : Int, (x != x) = false := fun x => by simp
  have HVs := hid (fun (h : TM.rowB l = true) W (hh : LiesN W A l) => hVs A n cap l r hln (TM.row_iff.1 h) ok hk W hh)
  have HVr := hid (fun (h : TM.rowB l = true) W (hh : LiesN W A l) => rvals_any A n cap l hln (TM.row_iff.1 h) ok r hk W hh)
  have HVb := hid (fun (h : TM.rowB l = false) W (hh : LiesN W A l) => hVb A n cap l r hln (by omega) h ok hk W hh)
  have HBd := hid (fun j => TM.val_bd ok hk j (l := l))
  clear hAw hCk hVs hVb hVl hln hl ok hc hrow hi hcap
  go_enter Try.func3, Try.ntmps3
  go_wp2_with fail
  refine (HAw.out _).mono ?_
  rintro e1 w1 ⟨rfl, hb⟩
  replace HRc := hid (HRc.out.below hb hsz)
  replace HB := stp HB hb
  clear hb hsz HAw
  go_wp2_with (at_builtin; refine wpList_append_nodes (by rfl) _ _ rfl w1.heap.size 0 n 0 cap (some ⟨w1.heap.size, 0, none⟩) A [] l rfl (own_new w1) rfl (HH.out.2.1.below (stp HB (al _ _)).out) HH.out.1 (by omega) (by simp) ?_)
  intro a2 cap2 w2 hown hb
  try simp only [Nat.zero_add, List.nil_append] at hown
  have HO := hid hown.lies
  have hb2 := (al w1 (.cells #[] 56)).trans hb
  have hlt1 : w.heap.size < w1.heap.size := HRc.out.lt
  replace HRc := hid (HRc.out.below hb2 hlt1)
  replace HB := stp HB hb2
  clear hown hb hb2 hlt1
  try simp only [Nat.zero_add]
  go_wp2_with fail
  refine (HCk.out _ _ _ HO.out).mono ?_
  rintro e1 w3 ⟨rfl, hb⟩
  replace HRc := hid (HRc.out.below hb HRc.out.lt)
  replace HB := stp HB hb
  clear hb HO HCk
  go_wp2_with fail
  refine (HCr.out _ (HH.out.2.1.below HB.out)).mono ?_
  rintro e1 w4 ⟨rfl, hb⟩
  replace HRc := hid (HRc.out.below hb HRc.out.lt)
  replace HB := stp HB hb
  clear hb HCr
  have hld := HRc.out.load
  cases hrb : TM.rowB l with
  | false =>
    have HC1 := hid (HVb.out hrb)
    have he0 : (e != 0) = true := by have := HRow.out; rw [hrb] at this; simp [bne, ← this]
    have hat : atE l i = 3 := by unfold atE; rw [if_pos hrb]
    rw [hat] at HVl
    clear HVb HVs HVr hat
    go_wp2_with fail
    refine (HC1.out _ (HH.out.2.1.below HB.out)).mono ?_
    rintro e1 w5 ⟨a5, c5, rfl, hb⟩
    replace HRc := hid (HRc.out.below hb HRc.out.lt)
    replace HB := stp HB hb
    clear hb HC1 hld
    have hld := HRc.out.load
    go_wp2_with fail
    refine (HVl.out _ (HH.out.2.1.below HB.out)).mono ?_
    rintro e1 w6 ⟨rfl, hb⟩
    replace HB := stp HB hb
    clear hb hld HRc
    go_wp2
    go_ret
    exact ⟨rfl, HB.out⟩
  | true =>
    have HC1 := hid (HVs.out hrb)
    have HC2 := hid (HVr.out hrb)
    have he0 : (e != 0) = false := by have := HRow.out; rw [hrb] at this; simp [bne, ← this]
    have hat : atE l i = if i < 0 ∨ (n : Int) ≤ i then 2 else 0 := by unfold atE; rw [if_neg (by rw [hrb]; simp), HH.out.1]
    obtain ⟨v, hv⟩ : ∃ v, (if atE l i = 0 then TM.val l r i.toNat else 0) = v := ⟨_, rfl⟩
    obtain ⟨E, hE⟩ : ∃ E, atE l i = E := ⟨_, rfl⟩
    rw [hv, hE] at HVl
    have HVE := hid (show (i < 0 ∨ (n : Int) ≤ i → E = 2 ∧ v = 0) ∧ (¬ (i < 0 ∨ (n : Int) ≤ i) → E = 0 ∧ v = TM.val l r i.toNat) from
      ⟨fun h => by rw [if_pos h] at hat; rw [← hE, ← hv, hat]; exact ⟨rfl, rfl⟩, fun h => by rw [if_neg h] at hat; rw [← hE, ← hv, hat]; exact ⟨rfl, rfl⟩⟩)
    clear HVb HVs HVr hat hv hE
    go_wp2_with fail
    refine (HC1.out _ (HH.out.2.1.below HB.out)).mono ?_
    rintro e1 w5 ⟨a5, c5, rfl, hR5, hb⟩
    replace HRc := hid (HRc.out.below hb HRc.out.lt)
    replace HB := stp HB hb
    have HV5 := hid hR5
    clear hb HC1 hld hR5
    have hld := HRc.out.load
    go_wp2_with fail
    refine (HVl.out _ (HH.out.2.1.below HB.out)).mono ?_
    rintro e1 w6 ⟨rfl, hb⟩
    replace HRc := hid (HRc.out.below hb HRc.out.lt)
    replace HB := stp HB hb
    replace HV5 := hid (HV5.out.below hb)
    clear hb HVl hld
    have hld := HRc.out.load
    go_wp2_with fail
    refine (HC2.out _ (HH.out.2.1.below HB.out)).mono ?_
    rintro e1 w7 ⟨g, rfl, hR7, hb, _⟩
    replace HB := stp HB hb
    replace HV5 := hid (HV5.out.below hb)
    have HV7 := hid hR7
    clear hb HC2 hld hR7 HRc hX
    go_wp2
    go_loopw [89] (fun iv wr => ∃ (k q : Nat), k ≤ n ∧ iv = .int .i64 k ∧ wr = w7.drewN q) (fun iv _ => n - (intOf iv).toNat)
    case atStart => exact ⟨0, 0, Nat.zero_le _, rfl, rfl⟩
    case round =>
      obtain ⟨k, q, hk, rfl, rfl⟩ := hrel
      by_cases hlt : k < n
      · have i2 : (k : Int) < (n : Int) := by omega
        obtain ⟨g5, o5, rfl, _, c5'⟩ : ∃ g o, a5 = some ⟨g, o, none⟩ ∧ g < w7.heap.size ∧ ∀ j, j < n → w7.cell? ⟨g, o + j, none⟩ = some (.int .u32 (TM.val l r j)) := by
          rcases HV5.out with h | h
          · omega
          · exact h
        have x5 := c5' k hlt
        have x7 := HV7.out.cell k hlt
        obtain ⟨u, hu⟩ : ∃ u, TM.val l r k = u := ⟨_, rfl⟩
        rw [hu] at x5 x7
        clear hu c5'
        have huu : (u != u) = false := by simp
        go_wp2
        go_quiet (fail)
        go_wp2
        go_roundw
        case rel => exact ⟨k + 1, _, by omega, by go_num, rfl⟩
        case measure => simp [intOf]; omega
      · obtain rfl : k = n := by omega
        have HBq := hid (bdrew HB.out q)
        have HV7q := hid (show Row (w7.drewN q) g k (fun j => .int .u32 (TM.val l r j)) from HV7.out.below (bdrew (Below.refl _ _) q))
        clear HB HV5 HV7
        generalize w7.drewN q = w8 at *
        by_cases h1 : i < 0
        · obtain ⟨rfl, rfl⟩ := HVE.out.1 (.inl h1)
          have d1 : decide (i < 0) = true := decide_eq_true h1
          clear HVE
          go_wp2
          go_ret
          exact ⟨rfl, HBq.out⟩
        · have d1 : decide (i < 0) = false := decide_eq_false h1
          by_cases h2 : (k : Int) ≤ i
          · obtain ⟨rfl, rfl⟩ := HVE.out.1 (.inr h2)
            have d2 : decide ((k : Int) ≤ i) = true := decide_eq_true h2
            clear HVE
            go_wp2
            go_ret
            exact ⟨rfl, HBq.out⟩
          · have d2 : decide ((k : Int) ≤ i) = false := decide_eq_false h2
            obtain ⟨rfl, hvv⟩ := HVE.out.2 (by omega)
            obtain ⟨y, rfl⟩ : ∃ y : Nat, i = y := ⟨i.toNat, by omega⟩
            have hyk : y < k := by omega
            have x7 := HV7q.out.cell y hyk
            rw [show (y : Int).toNat = y by omega] at hvv
            rw [← hvv] at x7
            have d3 : decide (k ≤ y) = false := decide_eq_false (by omega)
            have huu : (v == v) = true := by simp
            have i3 : (y : Int) < (k : Int) := by omega
            clear HVE hvv h1 h2
            go_wp2
            go_ret
            exact ⟨rfl, HBq.out⟩

theorem tvals_law (hAw : Aw11) (hCk : CkOk) (hVs : VsOk) (hVb : VsBad) (hVl : VlOk) (A : Option Addr) (cap : Nat) (l : List TM.N) (hcap : l.length ≤ cap) (ok : ∀ x ∈ l, TM.okN x) (r : List Int) (hk : R.okR r) (i : Int) (hi : (Lit.int .i64 i).wf = true) (w : World) (hl : LiesN w A l) :
    Calls Try.prog 3 #[.slice A l.length cap, .agg (RB.enc r), .int .i64 i] w fun e w' => e = .returned (.bool true) ∧ Below w.heap.size w w' := by
  by_cases h : 300 < l.length
  · exact tvals_big hAw A l.length cap r i h hk w
  · exact tvals_small hAw hCk hVs hVb hVl A l.length cap r i hi l rfl (by omega) hcap ok hk w hl
end Go.Proofs.Ytmjeoknndnbglaa.TB
