/-
  What the reference's own small functions answer, as walks over the Go text: the bits of a number as a slice; the number that a slice of bits makes.
-/
import Derived.Test.YtlbjfggcflfmaaaRows
import Derived.Test.YtlbjfggcflfmaaaRefMath
import Derived.WalkKit
import Derived.ProofKit
import Derived.OpenShut
import Derived.WalkLawsBesides
import Derived.Laws.Shifts
import Derived.Laws.BitsAllLaws
import Derived.Deep.QuietTactic
import Derived.BigQuiet
import Derived.Outline
namespace Go.Proofs.Ytlbjfggcflfmaaa.B
open Go.ChangeShapes Go.WideShapes Go.ChangeAt Go.RowKit

theorem info3 : (Try.prog.info? 3).map (fun i => (i.zero, i.size, i.bytes)) = some (some (.int .i64 0), 1, 8) := by kernel_rfl

theorem rel_bit {w wr w1 : World} {v v' : Value} {n k : Nat} (hown' : w1.ownsRow w.heap.size 3 1 v' (k + 1) ((M.bl n k).map (Value.int .i64) ++ [.int .i64 ((M.bt n k : Nat) : Int)]))
    (hown : wr.ownsRow w.heap.size 3 1 v k ((M.bl n k).map (Value.int .i64))) (hnx : Below w.heap.size w wr) (o : Obj) (hgrow : (wr.alloc o).grownBy w1 v.ownBlock) :
    w1.ownsRow w.heap.size 3 1 v' (k + 1) ((M.bl n (k + 1)).map (Value.int .i64)) ∧ Below w.heap.size w w1 := by
  refine ⟨by rw [M.bl_succ, List.map_append]; exact hown', ?_⟩
  have hs := hnx.size
  refine (hnx.alloc hs o).grown hgrow (by simp; omega) ?_
  intro j hj
  rcases hown.2 with ⟨h', _⟩ | ⟨g, cap, cur, h', hb, _⟩
  · subst h'; simp [Value.ownBlock] at hj
  · subst h'; simp [Value.ownBlock] at hj; omega

theorem own_cells {w : World} {base n k : Nat} {v : Value} (h : w.ownsRow base 3 1 v k ((M.bl n k).map (Value.int .i64))) (hk : 0 < k) :
    ∃ g cap, v = .slice (some ⟨g, 0, none⟩) k cap ∧ base ≤ g ∧ g < w.heap.size ∧ ∀ j : Nat, j < k → w.cell? ⟨g, j, none⟩ = some (.int .i64 ((M.bt n j : Nat) : Int)) := by
  rcases h.2 with ⟨h', h0⟩ | ⟨g, cap, cur, h', hb, hg, _⟩
  · omega
  · subst h'
    refine ⟨g, cap, rfl, hb, ?_, fun j hj => ?_⟩
    · rcases Nat.lt_or_ge g w.heap.size with h1 | h1
      · exact h1
      · rw [Array.getElem?_eq_none h1] at hg; cases hg
    · rw [h.cellAt j (by omega), M.bl_get n k j hj]

set_option maxHeartbeats 1600000 in
set_option maxRecDepth 1000000 in
theorem bits_any (n : Nat) (w : World) :
    Calls Try.prog 26 #[.int .u64 (n : Int)] w fun e w' => ∃ g cap, e = .returned (.slice (some ⟨g, 0, none⟩) 64 cap) ∧ w.heap.size ≤ g ∧ g < w'.heap.size ∧ (∀ j : Nat, j < 64 → w'.cell? ⟨g, j, none⟩ = some (.int .i64 ((M.bt n j : Nat) : Int))) ∧ Below w.heap.size w w' := by
  obtain ⟨i0, hi, hz0, hz1, hz2⟩ := info_parts info3
  go_enter Try.func26, Try.ntmps26
  go_wp2
  go_loopw [3, 4] (fun v i wr => ∃ k : Nat, k ≤ 64 ∧ i = .int .i64 k ∧ wr.ownsRow w.heap.size 3 1 v k ((M.bl n k).map (Value.int .i64)) ∧ Below w.heap.size w wr)
    (fun _ i _ => 64 - (intOf i).toNat)
  case atStart => exact ⟨0, Nat.zero_le _, rfl, World.ownsRow_nil _ _ _ _, Below.refl _ _⟩
  case round =>
    obtain ⟨k, hk, rfl, hown, hnx⟩ := hrel
    by_cases hlt : k < 64
    · have e1 := M.bt_walk n k
      go_wp2_with (first
        | (at_builtin; refine wpList_append_own _ rfl _ _ 39 rfl w.heap.size 3 i0 (.int .i64 0) 1 8 Try.underlying39 hi hz0 hz1 hz2 rfl (by decide) _ _ _ rfl (hown.alloc _) ⟨wr.heap.size, 0, none⟩ 1 1 [.int .i64 ((M.bt n k : Nat) : Int)] rfl rfl ?c1 ?c2 ?c3 ?c4 ?c5 ?_)
        | go_in)
      case c1 =>
        intro j u hj
        match j, hj with
        | 0, hj => simp at hj; subst hj; simp [Addr.add]
      case c2 => intro u hu; simp at hu; subst hu; rfl
      case c3 => unfold maxLen; omega
      case c4 => omega
      case c5 => have := hnx.size; simp; omega
      · intro v' w1 hown' hgrow _
        have R := rel_bit hown' hown hnx _ hgrow
        clear hown' hgrow hown hnx
        go_wp2
        go_roundw
        case rel => exact ⟨k + 1, by omega, by go_num, R.1, R.2⟩
        case measure => simp [intOf]; omega
    · obtain rfl : k = 64 := by omega
      obtain ⟨g, cap, hv, h1, h2, h3⟩ := own_cells hown (by omega)
      rw [hv]
      clear hown hv
      go_wp2
      go_ret
      exact ⟨g, cap, rfl, h1, h2, h3, hnx⟩
end Go.Proofs.Ytlbjfggcflfmaaa.B
