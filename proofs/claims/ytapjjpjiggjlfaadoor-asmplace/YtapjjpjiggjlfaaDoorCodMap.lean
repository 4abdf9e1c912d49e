/-
  The map of names and codes that the program writes out: what it holds, entry by entry; and what the look-up tells of it.
-/
import Derived.Test.YtapjjpjiggjlfaaDoorCodMath
import Derived.Maps.Own
import Derived.Maps.OwnOps
import Derived.Maps.OwnSet
import Derived.Maps.Views
import Derived.Maps.RangeWalk
import Derived.Sort.KeysCollected
import Derived.StringKeys
import Derived.Sort.EncStr
import Derived.WalkKit
import Derived.ProofKit
import Derived.OpenShut
import Derived.WalkLawsBesides
import Derived.Outline
namespace Go.Proofs.YtapjjpjiggjlfaaDoor.B
open Go.ChangeShapes Go.WideShapes Go.ChangeAt Go.RowKit Go.Maps
set_option linter.unusedVariables false

abbrev ky (s : List UInt8) : Lit := .string s
abbrev vl (c : Int) : DataW Unit := .lit (.int .u16 c)
def fold (l : List (List UInt8 × Int)) (D : DataW Unit) : DataW Unit := l.foldl (fun D p => D.put (ky p.1) (vl p.2)) D
def D0 : DataW Unit := fold M.tbl (.map [])

theorem law : Keyed Tryd.prog 9 := string_keyed Tryd.underlying9

/-- An entry that is put in. -/
theorem wpList_insert {w : World} {ops : Array Oper} {rest : List Oper} {o : Oper} {a : Act} {Q : Exit → Act → World → Prop}
    (hg : o.guard = none) (m x v : Operand) (s : List UInt8) (c : Int) (hop : o.op = Op.insert 80 m x v) (b n : Nat) (D : DataW Unit)
    (hm : a.eval m = .map (some b)) (hx : a.eval x = .string ⟨s.toArray⟩) (hv : a.eval v = .int .u16 c) (hown : w.ownsMap Tryd.prog 9 (plainElem Tryd.prog 22) b n D) (hn : n < 1000) (hs : s.length < 1000) (hc : 0 ≤ c ∧ c < 256)
    (hK : ∀ w', w'.ownsMap Tryd.prog 9 (plainElem Tryd.prog 22) b (n + 1) (D.put (ky s) (vl c)) → w.grownBy w' (some b) → wpList Tryd.prog ops Q rest (a.put o.dst undef) w') :
    wpList Tryd.prog ops Q (o :: rest) a w := by
  refine wpList_plain hg fun K' hK' => ?_
  have hkey : keyOf Tryd.prog 9 (.string ⟨s.toArray⟩) = some (ky s) := by
    have := WideMaps.keyOf_string_mk (s := ⟨s.toArray⟩) Tryd.underlying9 (by show s.toArray.size ≤ _; unfold maxLen; simp; omega)
    simpa using this
  have hval : plainElem (H := Unit) Tryd.prog 22 (.int .u16 c) = some (vl c, []) := plainElem_int Tryd.underlying22 (by simp [Lit.wf, IntKind.min, IntKind.max, IntKind.bits, IntKind.signed]; omega)
  obtain ⟨w', hrun, r1, r2⟩ := hown.update law Tryd.underlying80 (by unfold maxLen; omega) hkey hval
  unfold Oper.wp
  simp [execOp, hop, hm, hx, hv, hrun, Result.andThen]
  exact hK' _ _ (hK w' r1 r2)

def mk (p : List UInt8 × Int) : Oper := { dst := none, op := Op.insert 80 (.tmp 1) (.const (.string ⟨p.1.toArray⟩)) (.const (.int .u16 p.2)), type := 0, pos := "code.go:34", after := #[{ on := 0, ground := .data }], guard := none }

theorem wpList_inserts {ops : Array Oper} {rest : List Oper} {a : Act} {Q : Exit → Act → World → Prop} (b : Nat) (hm : a.eval (.tmp 1) = .map (some b)) :
    ∀ (l : List (List UInt8 × Int)) (n : Nat) (D : DataW Unit) (w : World), (∀ p ∈ l, p.1.length ≤ 6 ∧ 0 ≤ p.2 ∧ p.2 < 256) → w.ownsMap Tryd.prog 9 (plainElem Tryd.prog 22) b n D → n + l.length < 1000 →
    (∀ w', w'.ownsMap Tryd.prog 9 (plainElem Tryd.prog 22) b (n + l.length) (fold l D) → w.grownBy w' (some b) → wpList Tryd.prog ops Q rest a w') → wpList Tryd.prog ops Q (l.map mk ++ rest) a w
  | [], n, D, w, _, h, _, hK => hK w h (World.grownBy.refl _ _)
  | p :: l, n, D, w, hp, h, hn, hK => by
    have hq := hp p (by simp)
    simp only [List.length_cons] at hn hK
    refine wpList_insert rfl (.tmp 1) _ _ p.1 p.2 rfl b n D hm rfl rfl h (by omega) (by omega) hq.2 fun w1 h1 g1 => ?_
    refine wpList_inserts b hm l (n + 1) _ w1 (fun q hq => hp q (by simp [hq])) h1 (by omega) fun w2 h2 g2 => ?_
    rw [show n + 1 + l.length = n + (l.length + 1) by omega] at h2
    exact hK w2 h2 (g1.andThen g2 fun j hj => .inr hj)

def mkm : Oper := { dst := some 1, op := Op.makeMap 80 none, type := 80, pos := "code.go:34", after := #[], guard := none }
/-- Block b is the map; what lay before is as it was. -/
structure Mp (w : World) (b : Nat) (W : World) : Prop where
  own : W.ownsMap Tryd.prog 9 (plainElem Tryd.prog 22) b 41 D0
  below : Below w.heap.size w W
  fresh : w.heap.size ≤ b

theorem codes_wp {id : Nat} {rest : List Oper} {Q : Exit → Act → World → Prop} {w : World}
    (hK : ∀ w1, Mp w w.heap.size w1 → wpList Tryd.prog (mkm :: (M.tbl.map mk ++ rest)).toArray Q rest { tmps := #[.map none, .map (some w.heap.size), undef], defers := [] } w1) :
    (Code.region id (mkm :: (M.tbl.map mk ++ rest)).toArray false).wp Tryd.prog Q { tmps := #[.map none, undef, undef], defers := [] } w := by
  refine wp_region_lit ?_
  generalize (mkm :: (M.tbl.map mk ++ rest)).toArray = ops at hK ⊢
  refine wpList_plain rfl fun K' hK' => ?_
  unfold Oper.wp
  simp [execOp, mkm, run_makeMap, Result.andThen]
  refine hK' _ _ ?_
  refine wpList_inserts w.heap.size rfl M.tbl 0 _ _ (fun p hp => ⟨M.keys_short p hp, M.vals_small p hp⟩) (World.ownsMap_made _ _ _ _) (by decide) ?_
  intro w1 h1 g1
  exact hK w1 ⟨h1, ((Below.refl _ w).alloc (Nat.le_refl _) _).grown g1 (by simp) (fun j hj => by cases hj; exact Nat.le_refl _), Nat.le_refl _⟩
end Go.Proofs.YtapjjpjiggjlfaaDoor.B
