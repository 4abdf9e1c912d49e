/-
  What the listed variable gives the walks: the names lie where the program's text lays them; and the door's own heap meets the condition.
-/
import Derived.Test.YtgdgigldodbpeaaDoorRecNames
import Derived.ProofKit
import Derived.LaidMore
import Derived.OpenShut
import Derived.Stop.Joined
namespace Go.Proofs.YtgdgigldodbpeaaDoor.B
open Go.ChangeShapes Go.WideShapes Go.ChangeAt Go.WideMaps Go.WideElems Go.RowKit
set_option linter.unusedVariables false

def laidL : List (String × DataW Unit) := [("tamis/record.names", Rows.laid_tamis_record_names)]
theorem gNames : Tryd.prog.globalNamed "tamis/record.names" = some 0 := by kernel_rfl
theorem tNames : (Tryd.prog.globals[0]?).map (·.type) = some 56 := by kernel_rfl

theorem door_met (os : Os) (args : Array Value) : laidMetH Tryd.prog laidL ((World.doorLaid Tryd.prog 400 os).forCall (fun _ _ => 0) ⟨#[], args, []⟩).memory :=
  laidMetH_of_parts3 (fuel := 8) (laidMet_of_run' 8 (by kernel_rfl) (by kernel_rfl)) (by kernel_rfl) (by kernel_rfl)

theorem bytes_of {s : ByteArray} {l : List UInt8} (h : s.data.toList = l) : s = ⟨l.toArray⟩ := by
  cases s; subst h; rfl

theorem of_laid {W : World} (h : laidMetH Tryd.prog laidL W) : Nm W := by
  rw [MakeChecks.laidMetH_plain _ _ _ (by kernel_rfl)] at h
  obtain ⟨ps, ⟨g0, t0, cs0, f0, p0, q0, hg0, ht0, hv0, hd0, _, _⟩, _, _⟩ := h
  obtain rfl := Option.some.inj (gNames.symm.trans hg0)
  obtain rfl := Option.some.inj (tNames.symm.trans ht0)
  obtain ⟨xs, m1, hc, hx1, hlen, hn3, hel⟩ := DataW.trod_array Tryd.underlying56 hd0
  have c9 : Tryd.prog.cellsOf 9 = 1 := by kernel_rfl
  simp only [Prod.mk.injEq] at hx1
  have hmap : (List.map (fun x => x.1) xs) = nms.map (fun s => (DataW.lit (.string s.data.toList) : DataW Unit)) := by
    have := hx1.1
    unfold Rows.laid_tamis_record_names at this
    rw [DataW.agg.injEq] at this
    rw [← this]
    rfl
  intro k hk
  rw [World.var?_cell hg0 hv0 k]
  have h1 := hel k hk
  obtain ⟨y, hy⟩ : ∃ y, xs[k]? = some y := ⟨_, List.getElem?_eq_getElem (by omega)⟩
  rw [hy] at h1
  obtain ⟨s, e1, e2, _⟩ := DataW.trod_string Tryd.underlying9 h1
  rw [c9, Nat.mul_one] at e1
  have e3 : cs0[k]? = some (.string s) := by
    rw [← Array.getElem?_toList]
    have := congrArg (fun l => l[0]?) e1
    simpa [List.getElem?_take, List.getElem?_drop] using this
  rw [e3]
  have e4 := congrArg (fun l => l[k]?) hmap
  simp only [List.getElem?_map, hy, e2, Option.map_some] at e4
  have e5 : nms[k]? = some (nm k) := by
    unfold nm
    rw [List.getD_eq_getElem?_getD, List.getElem?_eq_getElem (show k < nms.length from hk)]
    rfl
  rw [e5] at e4
  simp only [Option.map_some, Option.some.injEq, DataW.lit.injEq, Lit.string.injEq] at e4
  rw [M.bytes_ext e4]
end Go.Proofs.YtgdgigldodbpeaaDoor.B
