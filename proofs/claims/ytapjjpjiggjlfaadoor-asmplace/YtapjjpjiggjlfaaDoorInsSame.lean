/-
  Whether two rows of instructions are the same, as walks over the Go text: the reference's and the library's.
-/
import Derived.Test.YtapjjpjiggjlfaaDoorInsRef
import Derived.Laws.StructEq
namespace Go.Proofs.YtapjjpjiggjlfaaDoor.B
open Go.ChangeShapes Go.WideShapes Go.ChangeAt Go.RowKit
set_option linter.unusedVariables false

/-- The instruction i lies at place j of the row that begins at b, o. -/
def LiesAt (w : World) (b o j : Nat) (i : M.I) : Prop :=
  w.cell? ⟨b, o + j * 4, none⟩ = some (.int .u16 i.1) ∧ w.cell? ⟨b, o + j * 4 + 1, none⟩ = some (.int .u8 i.2.1) ∧ w.cell? ⟨b, o + j * 4 + 2, none⟩ = some (.int .u8 i.2.2.1) ∧ w.cell? ⟨b, o + j * 4 + 3, none⟩ = some (.int .u32 i.2.2.2)
/-- The instructions of l lie at a, one behind the other. -/
def Lies (w : World) (a : Option Addr) (l : List M.I) : Prop :=
  l = [] ∨ ∃ b o, a = some ⟨b, o, none⟩ ∧ b < w.heap.size ∧ ∀ j (h : j < l.length), LiesAt w b o j l[j]

theorem Lies.mono {w w' : World} {a : Option Addr} {l : List M.I} {B : Nat} (h : Lies w a l) (hb : Below B w w') (hB : ∀ b o, a = some ⟨b, o, none⟩ → b < B) : Lies w' a l := by
  rcases h with h | ⟨b, o, e, hlt, h⟩
  · exact .inl h
  · refine .inr ⟨b, o, e, Nat.lt_of_lt_of_le hlt hb.size, fun j hj => ?_⟩
    have hbB := hB b o e
    obtain ⟨h0, h1, h2, h3⟩ := h j hj
    exact ⟨(hb.cell hbB).trans h0, (hb.cell hbB).trans h1, (hb.cell hbB).trans h2, (hb.cell hbB).trans h3⟩
theorem Lies.lt {w : World} {a : Option Addr} {l : List M.I} (h : Lies w a l) : l = [] ∨ ∃ b o, a = some ⟨b, o, none⟩ ∧ b < w.heap.size := by
  rcases h with h | ⟨b, o, e, hlt, _⟩
  · exact .inl h
  · exact .inr ⟨b, o, e, hlt⟩
theorem Lies.below {w w' : World} {a : Option Addr} {l : List M.I} (h : Lies w a l) (hb : Below w.heap.size w w') : Lies w' a l := by
  rcases h with h | ⟨b, o, e, hlt, h⟩
  · exact .inl h
  · exact Lies.mono (.inr ⟨b, o, e, hlt, h⟩) hb (fun b' o' e' => by rw [e] at e'; cases e'; exact hlt)
theorem Lies.drewN {w : World} {a : Option Addr} {l : List M.I} (h : Lies w a l) (n : Nat) : Lies (w.drewN n) a l := h

theorem dd (w : World) (a b : Nat) : (w.drewN a).drewN b = w.drewN (a + b) := by simp [World.drewN, Nat.add_assoc]
theorem take_next {l m : List M.I} {k : Nat} (h : k < l.length) (h' : k < m.length) (e : l.take k = m.take k) (ek : l[k] = m[k]) : l.take (k + 1) = m.take (k + 1) := by
  rw [List.take_succ_eq_append_getElem h, List.take_succ_eq_append_getElem h', e, ek]

theorem guard39 (op : BinOp) (x y : Operand) (xs ys : Array Value) (W : World) : (eqGuard op 25 x y (.agg xs) (.agg ys)).run Tryd.prog W = .ok () W :=
  run_eqGuard_agg W op 25 x y xs ys (by kernel_rfl)
theorem held39 : Tryd.prog.stoodInHeld 25 = false := by kernel_rfl
theorem fields39 : Tryd.prog.underlying 25 = some (.struct (Tryd.prog.fieldsOf 25)) := by kernel_rfl
theorem eq39 (c1 t1 f1 k1 c2 t2 f2 k2 : Int) (d : Nat) (W : World) :
    (Op.equalIn (d + 2) 25 (.agg #[.int .u16 c1, .int .u8 t1, .int .u8 f1, .int .u32 k1]) (.agg #[.int .u16 c2, .int .u8 t2, .int .u8 f2, .int .u32 k2])).run Tryd.prog W = .ok (decide ((c1, t1, f1, k1) = (c2, t2, f2, k2))) W := by
  rw [run_equalIn_struct W (d + 1) 25 _ _ fields39 held39]
  have hu := Tryd.underlying25
  rw [fields39] at hu
  simp only [Option.some.injEq, TypeDesc.struct.injEq] at hu
  rw [hu]
  have c36 : Tryd.prog.cellsOf 22 = 1 := by kernel_rfl
  have c5 : Tryd.prog.cellsOf 5 = 1 := by kernel_rfl
  have c37 : Tryd.prog.cellsOf 23 = 1 := by kernel_rfl
  simp [Op.eqFields, part, go_sem, Tryd.underlying22, Tryd.underlying5, Tryd.underlying23]
  repeat' split
  all_goals simp_all
theorem eql39 (c1 t1 f1 k1 c2 t2 f2 k2 : Int) (W : World) :
    (binOp .eql 25 (.agg #[.int .u16 c1, .int .u8 t1, .int .u8 f1, .int .u32 k1]) (.agg #[.int .u16 c2, .int .u8 t2, .int .u8 f2, .int .u32 k2])).run Tryd.prog W = .ok (.bool (decide ((c1, t1, f1, k1) = (c2, t2, f2, k2)))) W := by
  rw [run_eql_struct W 25, eq39 c1 t1 f1 k1 c2 t2 f2 k2 9998 W]; rfl
theorem neq39 (c1 t1 f1 k1 c2 t2 f2 k2 : Int) (W : World) :
    (binOp .neq 25 (.agg #[.int .u16 c1, .int .u8 t1, .int .u8 f1, .int .u32 k1]) (.agg #[.int .u16 c2, .int .u8 t2, .int .u8 f2, .int .u32 k2])).run Tryd.prog W = .ok (.bool (!decide ((c1, t1, f1, k1) = (c2, t2, f2, k2)))) W := by
  rw [run_neq_struct W 25, eq39 c1 t1 f1 k1 c2 t2 f2 k2 9998 W]; rfl

set_option maxHeartbeats 1600000 in
set_option maxRecDepth 1000000 in
theorem rsame_any (a b : Option Addr) (l m : List M.I) (ca cb : Nat) (w : World) (hl : Lies w a l) (hm : Lies w b m) (bl : l.length ≤ 65536) (bm : m.length ≤ 65536) :
    Calls Tryd.prog 16 #[.slice a l.length ca, .slice b m.length cb] w fun e w' => e = .returned (.bool (decide (l = m))) ∧ ∃ n, w' = w.drewN n := by
  by_cases hlen : l.length = m.length
  · go_enter Tryd.func16, Tryd.ntmps16
    go_wp2
    go_loopw [5] (fun i wr => ∃ k q : Nat, k ≤ l.length ∧ i = .int .i64 k ∧ Hid (l.take k = m.take k) ∧ wr = w.drewN q) (fun i _ => l.length - (intOf i).toNat)
    case atStart => exact ⟨0, 0, Nat.zero_le _, rfl, rfl, rfl⟩
    case round =>
      obtain ⟨k, q, hk, rfl, HT, rfl⟩ := hrel
      by_cases hlt : k < l.length
      · have hlt' : k < m.length := by omega
        rcases hl with hl | ⟨b1, o1, rfl, hb1, hl⟩
        · rw [hl] at hlt; simp at hlt
        rcases hm with hm | ⟨b2, o2, rfl, hb2, hm⟩
        · rw [hm] at hlt'; simp at hlt'
        obtain ⟨p0, p1, p2, p3⟩ := hl k hlt
        obtain ⟨r0, r1, r2, r3⟩ := hm k hlt'
        have HX : Hid (∀ h : l[k] = m[k], l.take (k + 1) = m.take (k + 1)) := fun h => take_next hlt hlt' HT.out h
        have HY : Hid (∀ h : l[k] ≠ m[k], decide (l = m) = false) := fun h => by simp; intro e; subst e; exact h rfl
        clear hl hm HT
        generalize l[k] = x at *
        generalize m[k] = y at *
        obtain ⟨c1, t1, f1, k1⟩ := x
        obtain ⟨c2, t2, f2, k2⟩ := y
        simp only at p0 p1 p2 p3 r0 r1 r2 r3
        have i1 : (k : Int) < (l.length : Int) := by omega
        have i2 : (k : Int) < (m.length : Int) := by omega
        clear hb1 hb2 hlen
        have hg := guard39
        have hn := neq39 c1 t1 f1 k1 c2 t2 f2 k2
        by_cases hxy : (c1, t1, f1, k1) = (c2, t2, f2, k2)
        · have HR := HX.out hxy
          have hd : decide ((c1, t1, f1, k1) = (c2, t2, f2, k2)) = true := by simpa using hxy
          simp only [hd, Bool.not_true] at hn
          clear hxy hd HX HY
          have HR : Hid (l.take (k + 1) = m.take (k + 1)) := HR
          go_wp2
          go_quiet (fail)
          go_wp2
          go_roundw
          case rel => exact ⟨k + 1, _, by omega, by go_num, HR, rfl⟩
          case measure => simp [intOf]; omega
        · have HR := HY.out hxy
          have hd : decide ((c1, t1, f1, k1) = (c2, t2, f2, k2)) = false := by simpa using hxy
          simp only [hd, Bool.not_false] at hn
          clear hxy hd HX HY
          have HR : Hid (decide (l = m) = false) := HR
          go_wp2
          go_quiet (fail)
          go_wp2
          go_ret
          exact ⟨ret_bool HR.out.symm, _, dd _ _ _⟩
      · obtain rfl : k = l.length := by omega
        have HR : decide (l = m) = true := by
          have := HT.out
          rw [List.take_length, hlen, List.take_length] at this
          simpa using this
        have HR : Hid (decide (l = m) = true) := HR
        clear hl hm HT
        go_wp2
        go_ret
        exact ⟨ret_bool HR.out.symm, _, rfl⟩
  · have h1 : decide (l = m) = false := by simp; intro h; exact hlen (by rw [h])
    have h2 : ((l.length : Int) != (m.length : Int)) = true := by simp; omega
    rw [h1]
    go_enter Tryd.func16, Tryd.ntmps16
    go_wp2
    go_ret
    exact ⟨rfl, 0, rfl⟩

end Go.Proofs.YtapjjpjiggjlfaaDoor.B
