/-
  The program's Step, as a walk over the Go text.
-/
import Derived.Test.YtfmlefadifpocaaHB
import Derived.Test.YtfmlefadifpocaaHN
import Derived.Test.YtfmlefadifpocaaH6
import Derived.Test.YtfmlefadifpocaaH4
import Derived.Test.YtfmlefadifpocaaHP
namespace Go.Proofs.Ytfmlefadifpocaa.WM
theorem val_bad {op a b : Int} (h : ok op b = false) : val op a b = 0 := by
  unfold ok at h
  simp only [Bool.or_eq_false_iff, Bool.and_eq_false_iff, beq_eq_false_iff_ne, ne_eq, bne_eq_false_iff_eq] at h
  obtain ⟨⟨⟨⟨⟨⟨⟨⟨⟨h0, h1⟩, h2⟩, h3⟩, h4⟩, h5⟩, h6⟩, h7⟩, h8⟩, h9⟩ := h
  unfold val
  rw [if_neg h0, if_neg h1, if_neg h2]
  by_cases e : op = 48
  · rw [if_pos e]
    rcases h3 with h3 | h3
    · exact absurd e h3
    · rw [if_pos h3]
  · rw [if_neg e, if_neg h4, if_neg h5, if_neg h6, if_neg h7, if_neg h8, if_neg h9]
end Go.Proofs.Ytfmlefadifpocaa.WM
namespace Go.Proofs.Ytfmlefadifpocaa.M
/-- what is wrong at a place, any -/
def locI (l : List I) (pc : Int) : Int := if pc < 0 ∨ (l.length : Int) ≤ pc then 2 else loc l.length pc.toNat (l.getD pc.toNat (0, 0, 0, 0))
theorem locI_out {l : List I} {pc : Int} (h : pc < 0 ∨ (l.length : Int) ≤ pc) : locI l pc = 2 := if_pos h
theorem locI_at {l : List I} {p : Nat} (h : p < l.length) : locI l p = loc l.length p l[p] := by
  unfold locI
  rw [if_neg (by omega)]
  simp only [Int.toNat_natCast]
  rw [List.getD_eq_getElem?_getD, List.getElem?_eq_getElem h]
  rfl
/-- Step's answer -/
def stepA (l : List I) (r : List Int) (s : S) : S × Int := if locI l s.pc ≠ 0 then (s0, locI l s.pc) else if s.en = true then (s0, 12) else (stepI (l.getD s.pc.toNat (0, 0, 0, 0)) r s, 0)
end Go.Proofs.Ytfmlefadifpocaa.M
namespace Go.Proofs.Ytfmlefadifpocaa.B
open Go.ChangeShapes Go.WideShapes Go.ChangeAt Go.RowKit
open Go.Sort hiding Below
set_option linter.unusedVariables false

theorem St.drew {W : World} {b : Nat} {t : TypeId} {s : M.S} (h : St W b t s) : St W.drew b t s := h.below (Below.refl _ _).drew
theorem recDrew {W : World} {b : Nat} {r : List Int} (h : RB.Rec W b r) : RB.Rec W.drew b r := h.below (Below.refl _ _).drew h.lt
end Go.Proofs.Ytfmlefadifpocaa.B
namespace Go.Proofs.Ytfmlefadifpocaa.M
theorem right_loc {l : List I} (hr : right l) {p : Nat} (hp : p < l.length) : loc l.length p l[p] = 0 := by
  have hw := ((right_iff l).1 hr).2.1 p hp
  rw [wrong_at hp] at hw
  simpa using hw
end Go.Proofs.Ytfmlefadifpocaa.M
namespace Go.Proofs.Ytfmlefadifpocaa.B
open Go.ChangeShapes Go.WideShapes Go.ChangeAt Go.RowKit
open Go.Sort hiding Below
set_option linter.unusedVariables false

/-- what is left to do, as the world has it -/
def mzS (W : World) (b n : Nat) : Nat := match W.cell? ⟨b, 19, none⟩ with
  | some (.bool true) => 0
  | _ => match W.cell? ⟨b, 0, none⟩ with
    | some (.int _ p) => n + 1 - p.toNat
    | _ => 0
theorem mzS_end {W : World} {b n : Nat} {t : TypeId} {s : M.S} (h : St W b t s) (he : s.en = true) : mzS W b n = 0 := by
  obtain ⟨s1, s2, s3, s4, s5⟩ := h.cells
  unfold mzS
  rw [s4, he]
theorem mzS_on {W : World} {b n p : Nat} {t : TypeId} {s : M.S} (h : St W b t s) (he : s.en = false) (hp : s.pc = p) : mzS W b n = n + 1 - p := by
  obtain ⟨s1, s2, s3, s4, s5⟩ := h.cells
  unfold mzS
  rw [s4, he, s1, hp]
  simp
theorem mzS_less {W W' : World} {b n p : Nat} {t : TypeId} {s : M.S} {l : List M.I} {r : List Int} (hln : l.length = n) (hr : M.right l) (ok : ∀ x ∈ l, M.okI x) (hp : s.pc = p) (hpl : p < l.length) (he : s.en = false) (h : St W b t s) (h' : St W' b t (M.stepI l[p] r s)) : mzS W' b n < mzS W b n := by
  rw [mzS_on h he hp]
  rcases M.step_on hr ok r hp hpl he with ⟨h1, h2⟩ | ⟨h1, q, h2, h3, h4⟩
  · rw [mzS_end h' h1]; omega
  · rw [mzS_on h' h1 h4]; omega

end Go.Proofs.Ytfmlefadifpocaa.B
namespace Go.Proofs.Ytfmlefadifpocaa.B
open Go.ChangeShapes Go.WideShapes Go.ChangeAt Go.RowKit
open Go.Sort hiding Below
set_option linter.unusedVariables false

end Go.Proofs.Ytfmlefadifpocaa.B
namespace Go.Proofs.Ytfmlefadifpocaa.B
open Go.ChangeShapes Go.WideShapes Go.ChangeAt Go.RowKit
open Go.Sort hiding Below
set_option linter.unusedVariables false
theorem wpList_build {P : Program} {ops : Array Oper} {Q : Exit → Act → World → Prop} {rest : List Oper} {o : Oper} {a : Act} {w : World} (hw : Region.wanted o (yielded ops a.tmps) = true) (t : TypeId) (fs : Array (Nat × Operand)) (ho : o.op = .build t fs)
    (args : Array (Nat × Value)) (hf : (fs.map fun (i, x) => (i, a.eval x)) = args) (v : Value) (hv : (Instr.build t args).run P w = .ok v w) (h : wpList P ops Q rest (a.put o.dst v) w) : wpList P ops Q (o :: rest) a w :=
  wpList_step fun K hK => by
    rw [if_pos hw]
    subst hf
    unfold Oper.wp
    simp only [execOp, ho]
    simp [hv, Result.andThen, Oper.upon]
    exact hK _ _ h
theorem lies_lit (w : World) (l : List M.I) (n : Nat) (hn : l.length = n) (hm : n ≤ maxLen) : Lies (w.alloc (.cells (i4s l).toArray 38)) (some ⟨w.heap.size, 0, none⟩) l :=
  lies_of_own (n := n) (cap := n) (World.ownsRow_lit (base := w.heap.size) (e := 38) (size := 4) w (i4s l).toArray n (Nat.le_refl _) hm (by simp [i4s_len, hn])) hn
theorem ly_lit (w : World) (l : List M.I) (n : Nat) (hn : l.length = n) (hm : n ≤ maxLen) (h0 : 0 < n) : Ly (w.alloc (.cells (i4s l).toArray 38)) w.heap.size 0 l := by
  obtain ⟨b, o, e, h⟩ := (lies_lit w l n hn hm).ly (by omega)
  injection e with e
  injection e with e1 e2
  subst e1 e2
  exact h
/-- the first words of a program's row -/
theorem Ly.take {w : World} {b o : Nat} {l : List M.I} (h : Ly w b o l) (k : Nat) : Ly w b o (l.take k) := by
  refine ⟨h.1, fun i hi => ?_⟩
  have hi' : i < l.length := by rw [List.length_take] at hi; omega
  have := h.2 i hi'
  rw [List.getElem_take]
  exact this
def rc (n : Int) : List Int := [n, 0, 0, 0, 0, 0, 0, 0, 0, 0, 0, 0, 0, 0, 0, 0]
theorem ok_rc {n : Int} (h : 0 ≤ n ∧ n < 4294967296) : R.okR (rc n) := ⟨rfl, fun i => by
  by_cases h' : i < 16
  · have : i = 0 ∨ i = 1 ∨ i = 2 ∨ i = 3 ∨ i = 4 ∨ i = 5 ∨ i = 6 ∨ i = 7 ∨ i = 8 ∨ i = 9 ∨ i = 10 ∨ i = 11 ∨ i = 12 ∨ i = 13 ∨ i = 14 ∨ i = 15 := by omega
    rcases this with rfl | rfl | rfl | rfl | rfl | rfl | rfl | rfl | rfl | rfl | rfl | rfl | rfl | rfl | rfl | rfl
    · exact h
    all_goals exact (show (0 : Int) ≤ 0 ∧ (0 : Int) < 4294967296 by decide)
  · rw [List.getD_eq_getElem?_getD, List.getElem?_eq_none (by show 16 ≤ i; omega)]; decide⟩
theorem bR (n : Int) (W : World) : (Instr.build 75 #[(0, .int .u32 n)]).run Try.prog W = .ok (.agg (RB.enc (rc n))) W := by kernel_rfl
theorem bR0 (W : World) : (Instr.build 75 #[]).run Try.prog W = .ok (.agg (RB.enc R.zero)) W := by kernel_rfl
end Go.Proofs.Ytfmlefadifpocaa.B
