/-
  The reference's Right of layer 8; the few answers of the graph that the document fixes: as walks over the Go text.
-/
import Derived.Test.YtfmlefadifpocaaJD
import Derived.Test.YtfmlefadifpocaaJF
namespace Go.Proofs.Ytfmlefadifpocaa.M
def g4 : List I := [(32, 0, 0, 0), (21, 0, 1, 5), (6, 0, 0, 1), (6, 0, 0, 2)]
def g3 : List I := [(5, 0, 0, 1), (6, 0, 0, 0), (6, 0, 0, 0)]
theorem g4_ok : ∀ i ∈ g4, okI i := by unfold okI; decide
theorem g3_ok : ∀ i ∈ g3, okI i := by unfold okI; decide
theorem g4_right : right g4 := right_of.1 (by decide +kernel)
theorem g3_right : right g3 := right_of.1 (by decide +kernel)
theorem g4_bad : rightB (g4.take 1) = false := by decide +kernel
theorem g0_bad : rightB [] = false := by decide +kernel
theorem g4_leads : leads g4 = [0, 2, 3] := by decide +kernel
theorem g4_n0 : (beh 1 (at0 g4 1)).map (numb g4) = [1, 2] := by decide +kernel
theorem g4_to0 : toOf g4 0 = 1 := by decide +kernel
theorem g4_to3 : toOf g4 3 = 3 := by decide +kernel
theorem g4_far : far g4 0 = 3 := by decide +kernel
theorem g4_beh : beh 1 (at0 g4 1) = [2, 3] := by decide +kernel
theorem g4_into : (List.range 4).map (into g4) = [0, 1, 1, 1] := by decide +kernel
theorem g3_rch : rch g3 0 = true ∧ rch g3 1 = false ∧ rch g3 2 = true := by decide +kernel
end Go.Proofs.Ytfmlefadifpocaa.M
namespace Go.Proofs.Ytfmlefadifpocaa.B
open Go.ChangeShapes Go.WideShapes Go.ChangeAt Go.RowKit
open Go.Sort hiding Below
set_option linter.unusedVariables false

set_option maxHeartbeats 1600000 in
set_option maxRecDepth 100000 in
theorem rright7 (a : Option Addr) (n cap : Nat) (l : List M.I) (hln : l.length = n) (hn : n ≤ 4096) (ok : ∀ i ∈ l, M.okI i) (w : World) (hl : Lies w a l) (q : Bool) (hq : M.rightB l = q) :
    Calls Try.prog 29 #[.slice a n cap] w fun e w' => e = .returned (.bool q) ∧ Below w.heap.size w w' := by
  obtain ⟨⟨p, e0⟩, hp⟩ : ∃ x, M.check l = x := ⟨_, rfl⟩
  have hC := rcheck_any a n cap l hln hn ok w hl p e0 hp
  have HR := hid (show (e0 == 0) = q by unfold M.rightB at hq; rw [hp] at hq; exact hq)
  clear hq hp hl ok
  go_enter Try.func29, Try.ntmps29
  go_wp2_with fail
  refine hC.mono ?_
  clear hC
  rintro e w1 ⟨rfl, hb⟩
  have HB := hid hb
  clear hb
  go_wp2
  go_ret
  exact ⟨by rw [← HR.out]; rfl, HB.out⟩
set_option maxHeartbeats 1600000 in
set_option maxRecDepth 100000 in
theorem rright8 (a : Option Addr) (n cap : Nat) (l : List M.I) (hln : l.length = n) (hn : n ≤ 4096) (ok : ∀ i ∈ l, M.okI i) (w : World) (hl : Lies w a l) (q : Bool) (hq : M.rightB l = q) :
    Calls Try.prog 22 #[.slice a n cap] w fun e w' => e = .returned (.bool q) ∧ Below w.heap.size w w' := by
  have HC := hid (rright7 a n cap l hln hn ok w hl q hq)
  clear hq hl ok hln
  go_enter Try.func22, Try.ntmps22
  go_wp2_with fail
  refine HC.out.mono ?_
  rintro e w1 ⟨rfl, hb⟩
  have HB := hid hb
  clear hb HC
  go_wp2
  go_ret
  exact ⟨rfl, HB.out⟩

/-- what the walk reads of the three blocks -/
structure AwB (W : World) (g : Nat) (a : Option Addr) (c : Nat) : Prop where
  lt : g < W.heap.size
  c1 : W.cell? ⟨g, 1, none⟩ = some (.int .i64 1)
  c2 : W.cell? ⟨g, 2, none⟩ = some (.slice a 2 c)
  c6 : W.cell? ⟨g, 6, none⟩ = some (.int .i64 3)
  nx : Nx W a [1, 2]
theorem AwB.below {W W' : World} {g : Nat} {a : Option Addr} {c : Nat} (h : AwB W g a c) (hb : Below W.heap.size W W') : AwB W' g a c :=
  ⟨Nat.lt_of_lt_of_le h.lt hb.size, (hb.cell (p := ⟨g, 1, none⟩) h.lt).trans h.c1, (hb.cell (p := ⟨g, 2, none⟩) h.lt).trans h.c2, (hb.cell (p := ⟨g, 6, none⟩) h.lt).trans h.c6, h.nx.below hb⟩

end Go.Proofs.Ytfmlefadifpocaa.B
