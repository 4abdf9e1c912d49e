/-
  A state of the machine, as it comes in.
-/
import Derived.Test.YtejolpbdpcllkabH6
import Derived.Laws.StructEq
namespace Go.Proofs.Ytejolpbdpcllkab.B
open Go.ChangeShapes Go.WideShapes Go.ChangeAt Go.RowKit
set_option linter.unusedVariables false

theorem cellsS : Try.prog.cellsOf 39 = 21 := by kernel_rfl
theorem cellsI : Try.prog.cellsOf 3 = 1 := by kernel_rfl
theorem cellsU : Try.prog.cellsOf 22 = 1 := by kernel_rfl
theorem cellsB : Try.prog.cellsOf 4 = 1 := by kernel_rfl
theorem cellsA : Try.prog.cellsOf 23 = 16 := by kernel_rfl
theorem open_arr {H : Type} {ev : TypeId × Value → H} {W : World} {base : Nat} {spare : Nat → Bool} {held : Bool} {fuel : Nat} {cs : List Value} {x : DataW H × List MemPlace}
    (h : DataW.trod ev Try.prog W base spare held fuel 23 cs = some x) :
    ∃ l : List Int, cs = (RB.enc l).toList ∧ x.2 = [] ∧ R.okR l := by
  obtain ⟨xs, m, _, hx, hl, hxl, hel⟩ := DataW.trod_array Try.underlying23 h
  rw [cellsA] at hl
  have key : ∀ i, i < 16 → ∃ n : Int, cs[i]? = some (.int .u32 n) ∧ (∃ y, xs[i]? = some y ∧ y.2 = []) ∧ (0 ≤ n ∧ n < 4294967296) := by
    intro i hi
    have h1 := hel i hi
    obtain ⟨y, hy⟩ : ∃ y, xs[i]? = some y := ⟨_, List.getElem?_eq_getElem (by omega)⟩
    rw [hy] at h1
    obtain ⟨n, e1, e2, wf⟩ := DataW.trod_int Try.underlying22 h1
    rw [cellsU, Nat.mul_one] at e1
    refine ⟨n, ?_, ⟨y, hy, by rw [e2]⟩, by have := bounds_u32 wf; omega⟩
    have := congrArg (fun l => l[0]?) e1
    simpa [List.getElem?_take, List.getElem?_drop] using this
  obtain ⟨l, hl16, hg⟩ : ∃ l : List Int, l.length = 16 ∧ ∀ i, i < 16 → ∀ n, cs[i]? = some (.int .u32 n) → R.at_ l i = n := by
    refine ⟨(List.range 16).map fun i => intOf (cs.getD i (.int .u32 0)), by simp, fun i hi n hn => ?_⟩
    simp [R.at_, List.getD_eq_getElem?_getD, List.getElem?_range hi, hn, intOf]
  refine ⟨l, ?_, ?_, hl16, ?_⟩
  · apply List.ext_getElem?
    intro i
    by_cases hi : i < 16
    · obtain ⟨n, e, _, _⟩ := key i hi
      rw [e, Array.getElem?_toList, RB.enc_get hl16 i hi, hg i hi n e]
    · rw [List.getElem?_eq_none (by omega), List.getElem?_eq_none (by rw [Array.length_toList, RB.enc_size hl16]; omega)]
  · rw [hx]
    simp only [List.flatMap_eq_nil_iff]
    intro y hy
    obtain ⟨i, hi, rfl⟩ := List.getElem_of_mem hy
    obtain ⟨_, _, ⟨z, hz, hz2⟩, _⟩ := key i (by omega)
    rw [List.getElem?_eq_getElem hi] at hz
    simp only [Option.some.injEq] at hz
    rw [hz]; exact hz2
  · intro i
    by_cases hi : i < 16
    · obtain ⟨n, e, _, b⟩ := key i hi
      have := hg i hi n e
      unfold R.at_ at this
      rw [this]; exact b
    · rw [List.getD_eq_getElem?_getD, List.getElem?_eq_none (by omega)]; decide


theorem arg_state {H : Type} {ev : TypeId × Value → H} {W : World} {base : Nat} {spare : Nat → Bool} {held : Bool} {v : Value} {d : DataW H} {p : List MemPlace} {b0 : Nat} {r : Reach}
    (hv : Value.okWide Try.prog W r b0 39 v) (h : DataW.Trod ev Try.prog W base spare held 39 v d p) :
    ∃ s : M.S, v = .agg (encS s) ∧ p = [] ∧ M.okS s ∧ (Lit.int .i64 s.pc).wf = true := by
  obtain ⟨cs, rfl, hsz⟩ := okWide_struct Try.underlying39 hv
  obtain ⟨fuel, hf⟩ := h
  obtain ⟨xs, n, _, hx, hl, hxl, hff⟩ := DataW.trod_struct Try.underlying39 hf
  rw [cellsS] at hl
  simp only [Value.cells] at hff hl
  obtain ⟨cl⟩ := cs
  match xs, hxl with
  | [y0, y1, y2, y3, y4, y5], _ =>
    have g0 := hff 0 _ rfl
    have g1 := hff 1 _ rfl
    have g2 := hff 2 _ rfl
    have g3 := hff 3 _ rfl
    have g4 := hff 4 _ rfl
    have g5 := hff 5 _ rfl
    simp [cellsA, cellsI, cellsU, cellsB] at g0 g1 g2 g3 g4 g5
    obtain ⟨pc, e0, hy0, w0⟩ := DataW.trod_int Try.underlying3 g0
    obtain ⟨a, e1, hy1, w1⟩ := DataW.trod_int Try.underlying22 g1
    obtain ⟨x, e2, hy2, w2⟩ := DataW.trod_int Try.underlying22 g2
    obtain ⟨m, e3, hy3, ok⟩ := open_arr g3
    obtain ⟨en, e4, hy4⟩ := DataW.trod_bool Try.underlying4 g4
    obtain ⟨an, e5, hy5, w5⟩ := DataW.trod_int Try.underlying22 g5
    have b1 := bounds_u32 w1
    have b2 := bounds_u32 w2
    have b5 := bounds_u32 w5
    simp only at hl e0 e1 e2 e3 e4 e5
    refine ⟨⟨pc, a, x, m, en, an⟩, ?_, by rw [Prod.mk.injEq] at hx; rw [hx.2]; simp [hy0, hy1, hy2, hy3, hy4, hy5], ⟨⟨by simp only; omega, by simp only; omega⟩, ⟨by simp only; omega, by simp only; omega⟩, ok, ⟨by simp only; omega, by simp only; omega⟩⟩, w0⟩
    congr 1
    apply Array.toList_inj.1
    show cl = (encS ⟨pc, a, x, m, en, an⟩).toList
    have split : cl = cl.take 1 ++ (cl.tail.take 1 ++ ((cl.drop 2).take 1 ++ ((cl.drop 3).take 16 ++ ((cl.drop 19).take 1 ++ (cl.drop 20).take 1)))) := by
      match cl, hl with
      | [c0, c1, c2, c3, c4, c5, c6, c7, c8, c9, c10, c11, c12, c13, c14, c15, c16, c17, c18, c19, c20], _ => rfl
    rw [split, e0, e1, e2, e3, e4, e5]
    unfold encS
    simp
end Go.Proofs.Ytejolpbdpcllkab.B
namespace Go.Proofs.Ytejolpbdpcllkab.M
def sameS (s u : S) : Bool := s.pc == u.pc && (s.a == u.a && (s.x == u.x && (decide (s.m = u.m) && (s.en == u.en && s.an == u.an))))
theorem sameS_iff {s u : S} : sameS s u = true ↔ s = u := by
  obtain ⟨a1, a2, a3, a4, a5, a6⟩ := s
  obtain ⟨b1, b2, b3, b4, b5, b6⟩ := u
  simp [sameS]
end Go.Proofs.Ytejolpbdpcllkab.M
namespace Go.Proofs.Ytejolpbdpcllkab.B
open Go.ChangeShapes Go.WideShapes Go.ChangeAt Go.RowKit
set_option linter.unusedVariables false

theorem part_m {a : List Int} (ha : a.length = 16) (i : Nat) (hi : i < 16) (W : World) : (part 22 (RB.enc a) (i * 1)).run Try.prog W = .ok (.int .u32 (R.at_ a i)) W := by
  have h0 := RB.enc_get ha i hi
  simp [part, go_sem, h0]
theorem eqm_loop (a b : List Int) (W : World) (f : Nat → Option Bool × Unit → Sem (ForInStep (Option Bool × Unit)))
    (hf : ∀ i, i < 16 → (f i (none, ())).run Try.prog W = .ok (if R.at_ a i = R.at_ b i then .yield (none, ()) else .done (some false, ())) W) :
    ∀ n k, k + n = 16 → ((∀ i, k ≤ i → i < 16 → R.at_ a i = R.at_ b i) → (forIn (List.range' k n 1) (none, ()) f).run Try.prog W = .ok (none, ()) W) ∧
      ((¬ ∀ i, k ≤ i → i < 16 → R.at_ a i = R.at_ b i) → (forIn (List.range' k n 1) (none, ()) f).run Try.prog W = .ok (some false, ()) W)
  | 0, k, h => by
    refine ⟨fun _ => by simp, fun hn => (hn fun i h1 h2 => by omega).elim⟩
  | n + 1, k, h => by
    rw [List.range'_succ, List.forIn_cons, Sem.run_bind, hf k (by omega)]
    obtain ⟨ih1, ih2⟩ := eqm_loop a b W f hf n (k + 1) (by omega)
    by_cases e : R.at_ a k = R.at_ b k
    · rw [if_pos e]
      simp only [Result.andThen_ok]
      refine ⟨fun hh => ih1 fun i h1 h2 => hh i (by omega) h2, fun hh => ih2 fun hc => hh fun i h1 h2 => ?_⟩
      by_cases e2 : i = k
      · rw [e2]; exact e
      · exact hc i (by omega) h2
    · rw [if_neg e]
      refine ⟨fun hh => (e (hh k (Nat.le_refl _) (by omega))).elim, fun _ => by simp [Result.andThen]⟩
theorem eqm (a b : List Int) (ha : a.length = 16) (hb : b.length = 16) (d : Nat) (W : World) :
    (Op.equalIn (d + 2) 23 (.agg (RB.enc a)) (.agg (RB.enc b))).run Try.prog W = .ok (decide (a = b)) W := by
  rw [show d + 2 = (d + 1) + 1 from rfl, Op.equalIn]
  simp only [Sem.run_bind, run_underlying Try.underlying23, Result.andThen_ok, Try.sizeOf22, Std.Legacy.Range.forIn_eq_forIn_range', Std.Legacy.Range.size, Nat.sub_zero, Nat.add_one_sub_one, Nat.div_one]
  by_cases e : a = b
  · rw [(eqm_loop a b W _ ?hf 16 0 (by omega)).1 (fun i _ _ => by rw [e])]
    case hf =>
      intro i hi
      simp only [Sem.run_bind, part_m ha i hi, part_m hb i hi, Result.andThen_ok, run_equalIn_int W d 22 .u32 .u32 _ _ Try.underlying22]
      by_cases e : R.at_ a i = R.at_ b i
      · rw [if_pos e]; simp [e]
      · rw [if_neg e]; simp [e]
    simp [Result.andThen, e]
  · have : ¬ ∀ i, 0 ≤ i → i < 16 → R.at_ a i = R.at_ b i := fun hh => e (R.ext16 ha hb fun i hi => hh i (Nat.zero_le _) hi)
    rw [(eqm_loop a b W _ ?hf 16 0 (by omega)).2 this]
    case hf =>
      intro i hi
      simp only [Sem.run_bind, part_m ha i hi, part_m hb i hi, Result.andThen_ok, run_equalIn_int W d 22 .u32 .u32 _ _ Try.underlying22]
      by_cases e : R.at_ a i = R.at_ b i
      · rw [if_pos e]; simp [e]
      · rw [if_neg e]; simp [e]
    simp [Result.andThen, e]

theorem part_cell (t : TypeId) (h2 : ∀ W, (isAgg t).run Try.prog W = .ok false W) (cs : Array Value) (j : Nat) (v : Value) (h : cs[j]? = some v) (W : World) : (part t cs j).run Try.prog W = .ok v W := by
  simp [part, h2, Sem.run_bind, Result.andThen, h]
theorem part_mid {s : M.S} (hs : s.m.length = 16) (W : World) : (part 23 (encS s) 3).run Try.prog W = .ok (.agg (RB.enc s.m)) W := by
  have e : (encS s).extract 3 19 = RB.enc s.m := by
    apply Array.ext_getElem?
    intro j
    rw [Array.getElem?_extract, encS_size hs]
    by_cases hj : j < 16
    · rw [if_pos (by omega), encS_mid hs j hj, RB.enc_get hs j hj]
    · rw [if_neg (by omega), Array.getElem?_eq_none (by rw [RB.enc_size hs]; omega)]
  simp [part, go_sem, e]
theorem eqS_iff {s u : M.S} (hs : s.m.length = 16) (hu : u.m.length = 16) : (s.pc = u.pc ∧ s.a = u.a ∧ s.x = u.x ∧ s.m = u.m ∧ s.en = u.en ∧ s.an = u.an) ↔ encS s = encS u := by
  constructor
  · rintro ⟨h1, h2, h3, h4, h5, h6⟩
    unfold encS
    rw [h1, h2, h3, h4, h5, h6]
  · intro h
    have g := fun j : Nat => congrArg (fun a : Array Value => a[j]?) h
    have g0 := g 0
    have g1 := g 1
    have g2 := g 2
    have g19 := g 19
    have g20 := g 20
    simp only [encS_get hs, encS_get hu] at g0 g1 g2 g19 g20
    simp at g0 g1 g2 g19 g20
    refine ⟨g0, g1, g2, R.ext16 hs hu fun i hi => ?_, g19, g20⟩
    have := g (3 + i)
    simp only [encS_mid hs i hi, encS_mid hu i hi] at this
    simpa using this
theorem guardK (op : BinOp) (x y : Operand) (xs ys : Array Value) (W : World) : (eqGuard op 39 x y (.agg xs) (.agg ys)).run Try.prog W = .ok () W :=
  run_eqGuard_agg W op 39 x y xs ys (by kernel_rfl)
theorem heldK : Try.prog.stoodInHeld 39 = false := by kernel_rfl
theorem fieldsK : Try.prog.underlying 39 = some (.struct (Try.prog.fieldsOf 39)) := by kernel_rfl
set_option maxRecDepth 100000 in
theorem eqK {s u : M.S} (hs : s.m.length = 16) (hu : u.m.length = 16) (d : Nat) (W : World) :
    (Op.equalIn (d + 3) 39 (.agg (encS s)) (.agg (encS u))).run Try.prog W = .ok (M.sameS s u) W := by
  rw [run_equalIn_struct W (d + 2) 39 _ _ fieldsK heldK]
  have hf := Try.underlying39
  rw [fieldsK] at hf
  simp only [Option.some.injEq, TypeDesc.struct.injEq] at hf
  rw [hf]
  have a0 := encS_get hs 0
  have a1 := encS_get hs 1
  have a2 := encS_get hs 2
  have a19 := encS_get hs 19
  have a20 := encS_get hs 20
  have b0 := encS_get hu 0
  have b1 := encS_get hu 1
  have b2 := encS_get hu 2
  have b19 := encS_get hu 19
  have b20 := encS_get hu 20
  simp at a0 a1 a2 a19 a20 b0 b1 b2 b19 b20
  have gI : ∀ W, (isAgg 3).run Try.prog W = .ok false W := fun W => by simp [go_sem]
  have gU : ∀ W, (isAgg 22).run Try.prog W = .ok false W := fun W => by simp [go_sem]
  have gB : ∀ W, (isAgg 4).run Try.prog W = .ok false W := fun W => by simp [go_sem]
  have p0 := fun W => part_cell 3 gI (encS s) 0 _ a0 W
  have p1 := fun W => part_cell 22 gU (encS s) 1 _ a1 W
  have p2 := fun W => part_cell 22 gU (encS s) 2 _ a2 W
  have p19 := fun W => part_cell 4 gB (encS s) 19 _ a19 W
  have p20 := fun W => part_cell 22 gU (encS s) 20 _ a20 W
  have r0 := fun W => part_cell 3 gI (encS u) 0 _ b0 W
  have r1 := fun W => part_cell 22 gU (encS u) 1 _ b1 W
  have r2 := fun W => part_cell 22 gU (encS u) 2 _ b2 W
  have r19 := fun W => part_cell 4 gB (encS u) 19 _ b19 W
  have r20 := fun W => part_cell 22 gU (encS u) 20 _ b20 W
  have pm := fun W => part_mid hs W
  have rm := fun W => part_mid hu W
  have em := fun W => eqm s.m u.m hs hu d W
  have eI := fun (a b : Int) W => run_equalIn_int (P := Try.prog) W (d + 1) 3 .i64 .i64 a b Try.underlying3
  have eU := fun (a b : Int) W => run_equalIn_int (P := Try.prog) W (d + 1) 22 .u32 .u32 a b Try.underlying22
  have eB : ∀ (a b : Bool) W, (Op.equalIn (d + 2) 4 (.bool a) (.bool b)).run Try.prog W = .ok (a == b) W := fun a b W => by simp [Op.equalIn, go_sem]
  simp only [Op.eqFields]
  unfold M.sameS
  simp [Sem.run_bind, p0, p1, p2, p19, p20, r0, r1, r2, r19, r20, pm, rm, em, eI, eU, eB, Result.andThen]
  repeat' split
  all_goals simp [*]
theorem eqlK {s u : M.S} (hs : s.m.length = 16) (hu : u.m.length = 16) (W : World) : (binOp .eql 39 (.agg (encS s)) (.agg (encS u))).run Try.prog W = .ok (.bool (M.sameS s u)) W := by
  rw [run_eql_struct W 39, eqK hs hu 9997 W]; rfl
end Go.Proofs.Ytejolpbdpcllkab.B
namespace Go.Proofs.Ytejolpbdpcllkab.B
open Go.ChangeShapes Go.WideShapes Go.ChangeAt Go.RowKit
set_option linter.unusedVariables false
def lcf3 (b n : Nat) : Sem (Array Value) := loadCellsFrom ⟨b, 3, none⟩ 0 n #[]
theorem lcf3_eq : ∀ b n, loadCellsFrom ⟨b, 3, none⟩ 0 n #[] = lcf3 b n := fun _ _ => rfl
theorem St.loadM {W : World} {b : Nat} {t : TypeId} {s : M.S} (h : St W b t s) : (lcf3 b 16).run Try.prog W = .ok (RB.enc s.m) W := by
  unfold lcf3
  have := run_loadCells_list (P := Try.prog) W ⟨b, 3, none⟩ (RB.enc s.m).toList (fun j v hv => by
    have hadd : (⟨b, 3, none⟩ : Addr).add j = ⟨b, 3 + j, none⟩ := by unfold Addr.add; split <;> simp_all
    have hj : j < 16 := by
      have := (List.getElem?_eq_some_iff.1 hv).1
      rw [Array.length_toList, RB.enc_size h.2] at this; exact this
    rw [hadd, h.mem j hj]
    have : (RB.enc s.m)[j]? = some v := by simpa using hv
    rw [RB.enc_get h.2 j hj] at this
    exact this)
  have hs : (RB.enc s.m).toList.length = 16 := by rw [Array.length_toList, RB.enc_size h.2]
  rw [hs] at this
  simpa [loadCells] using this
end Go.Proofs.Ytejolpbdpcllkab.B
