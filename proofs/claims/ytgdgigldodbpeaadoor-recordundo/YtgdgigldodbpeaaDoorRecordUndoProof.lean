/-
  For every record, two fields and two numbers, a field that is set twice is as it was set last, set back it is the record that it was, and two fields are set in either order; no condition.
-/
import Derived.Test.YtgdgigldodbpeaaDoorRows
import Derived.WalkKit
import Derived.ProofKit
import Derived.OpenShut
import Derived.Carry
import Derived.Test.YtgdgigldodbpeaaDoorTie
import Derived.Test.YtgdgigldodbpeaaDoorCards
import Derived.SevenTiedAt
import Derived.Test.YtgdgigldodbpeaaDoorRecAwake
import Derived.Test.YtgdgigldodbpeaaDoorRecLaid
import Derived.Test.YtgdgigldodbpeaaDoorRecTwo
namespace Go.Proofs.YtgdgigldodbpeaaDoor.recordUndo
open Go.ChangeShapes Go.WideShapes Go.ChangeAt Go.RowKit
set_option linter.unusedVariables false

theorem own : ownKnob Tryd.prog.godebug = none := by kernel_rfl
theorem laidOut : laidOutB Tryd.prog = true := by kernel_rfl
/-- what is kept: the names, the record, all that was there -/
def K (w : World) (l : List Int) (w' : World) : Prop := B.Nm w' ∧ B.Rec w' (w.heap.size + 1) l ∧ Below w.heap.size w w'
theorem K.below {w w' w'' : World} {l : List Int} (h : K w l w') (hB : Below w'.heap.size w' w'') : K w l w'' :=
  ⟨h.1.below hB (Nat.lt_of_le_of_lt (Nat.zero_le _) h.2.1.lt), h.2.1.below hB h.2.1.lt, h.2.2.trans (hB.mono h.2.2.size)⟩

/-- what the block that came in reads as -/
def S (w : World) (c5 : Array Value) (l : List Int) (f g v u : Int) (w' : World) : Prop :=
  (B.lcf w.heap.size 16).run Tryd.prog w' = .ok (B.enc l) w' ∧ w'.cell? ⟨w.heap.size, 16, none⟩ = some (.int .i64 f) ∧ w'.cell? ⟨w.heap.size, 17, none⟩ = some (.int .i64 g) ∧ w'.cell? ⟨w.heap.size, 18, none⟩ = some (.int .u64 v) ∧ w'.cell? ⟨w.heap.size, 19, none⟩ = some (.int .u64 u)
theorem s_of {w w' : World} {l : List Int} (ok : M.okR l) (f g v u : Int) (hh : w'.heap[w.heap.size]? = some (.cells (B.enc5 l f g v u) 51 (0, 0))) : S w (B.enc5 l f g v u) l f g v u w' := by
  refine ⟨?_, ?_, ?_, ?_, ?_⟩
  · have := run_loadCells_list (P := Tryd.prog) w' ⟨w.heap.size, 0, none⟩ (B.enc l).toList (fun j x hx => by
      have hadd : (⟨w.heap.size, 0, none⟩ : Addr).add j = ⟨w.heap.size, j, none⟩ := by unfold Addr.add; split <;> simp_all
      have hj : j < 16 := by
        have := (List.getElem?_eq_some_iff.1 hx).1
        rw [Array.length_toList, B.enc_size ok.1] at this
        exact this
      rw [hadd, cell_of_row _ _ j (B.enc5 l f g v u) _ (0, 0) hh, B.enc5_low ok.1 f g v u j hj, ← Array.getElem?_toList]
      exact hx)
    rw [show (B.enc l).toList.length = 16 by rw [Array.length_toList, B.enc_size ok.1]] at this
    simpa [loadCells, B.lcf] using this
  · exact (cell_of_row _ _ 16 (B.enc5 l f g v u) _ (0, 0) hh).trans (B.enc5_high ok.1 f g v u 0)
  · exact (cell_of_row _ _ 17 (B.enc5 l f g v u) _ (0, 0) hh).trans (B.enc5_high ok.1 f g v u 1)
  · exact (cell_of_row _ _ 18 (B.enc5 l f g v u) _ (0, 0) hh).trans (B.enc5_high ok.1 f g v u 2)
  · exact (cell_of_row _ _ 19 (B.enc5 l f g v u) _ (0, 0) hh).trans (B.enc5_high ok.1 f g v u 3)
theorem start (l : List Int) (ok : M.okR l) (f g v u : Int) (w : World) (hN : B.Nm w) : ∃ W W2 : World, (w.alloc (.cells (B.enc5 l f g v u) 51)).drew = W ∧ W.heap.size = w.heap.size + 1 ∧
    S w (B.enc5 l f g v u) l f g v u W ∧ S w (B.enc5 l f g v u) l f g v u (W.alloc (.cells (B.enc M.zero) 24)) ∧ S w (B.enc5 l f g v u) l f g v u W2 ∧
    (storeCells ⟨w.heap.size + 1, 0, none⟩ (B.enc l).toList 0).run Tryd.prog (W.alloc (.cells (B.enc M.zero) 24)) = .ok () W2 ∧ K w l W2 := by
  have hh : (w.alloc (.cells (B.enc5 l f g v u) 51)).drew.heap[w.heap.size]? = some (.cells (B.enc5 l f g v u) 51 (0, 0)) := heap_alloc_last w _
  have hB : Below w.heap.size w (w.alloc (.cells (B.enc5 l f g v u) 51)).drew := ((Below.refl _ w).alloc (Nat.le_refl _) _).drew
  obtain ⟨W2, hst, hR, _, hs, hb⟩ := B.new_rec (w.alloc (.cells (B.enc5 l f g v u) 51)).drew l ok.1
  have hsz : (w.alloc (.cells (B.enc5 l f g v u) 51)).drew.heap.size = w.heap.size + 1 := by simp [World.drew]
  rw [hsz] at hst hR hb
  refine ⟨_, W2, rfl, hsz, s_of ok f g v u hh, s_of ok f g v u ?_, s_of ok f g v u ?_, hst, ⟨(hN.below hB hN.size).below hb (by omega), hR, hB.trans (hb.mono (by omega))⟩⟩
  · rw [Below.heap_alloc _ _ _ (by omega)]; exact hh
  · rw [hb.block _ (by omega)]; exact hh

set_option maxHeartbeats 3200000 in
set_option maxRecDepth 1000000 in
theorem no_ (l : List Int) (ok : M.okR l) (f g v u : Int) (bv : 0 ≤ v ∧ v < 18446744073709551616) (w : World) (hN : B.Nm w)
    (hc : M.isF f = false ∨ (M.isF f = true ∧ M.fits f v = false)) :
    Calls Tryd.prog 8 #[.agg (B.enc5 l f g v u)] w fun e w' => e = .returned (.bool true) ∧ Below w.heap.size w w' := by
  have okA := M.ok_with ok f v bv
  have HV : Hid (0 ≤ v ∧ v < 18446744073709551616) := bv
  obtain ⟨a, ha⟩ : ∃ a, M.with_ l f v = a := ⟨_, rfl⟩
  rw [ha] at okA
  have hsa : (B.enc a).size = 16 := B.enc_size okA.1
  have hsl : (B.enc l).size = 16 := B.enc_size ok.1
  have hX := B.lcf_eq
  have hz := B.zero_lit
  obtain ⟨W, W2, hW, hWs, hS0, hS1, hS2, hst, hK⟩ := start l ok f g v u w hN
  have HK : Hid (K w l W2) := hK
  have hld := hK.2.1.load
  generalize B.enc5 l f g v u = c5 at *
  have HS0 : Hid (S w c5 l f g v u W) := hS0
  have HS1 : Hid (S w c5 l f g v u (W.alloc (.cells (B.enc M.zero) 24))) := hS1
  have HS2 : Hid (S w c5 l f g v u W2) := hS2
  clear hN bv hK hS0 hS1 hS2
  rcases hc with h1 | ⟨h1, h2⟩
  all_goals
    go_enter Tryd.func8, Tryd.ntmps8
    go_wp2_with fail
    refine wp_region_held_drew (S := fun w' => S w c5 l f g v u w') (by kernel_rfl) (by rw [hW]; exact HS0.out) (fun hHeld => ?_)
    rw [hW] at hHeld ⊢
    change wpAnyH _ _ _ _ _ 16 #[false, false, false, false, false, false, false, false, false, false, false, false, false, false, false, false] _ _
    refine wpAnyH_take (i := 0) (v := ?_) (by simp only [List.getElem?_toArray, List.getElem?_cons_zero]; rfl) (by kernel_rfl) (by kernel_rfl) (by kernel_rfl) (by exact fun _ _ _ h => h) (Or.inl ⟨by rfl, ?_⟩) (by assumption) ?_
    rotate_left
    · (intro w hSw; (try dsimp only at hSw); unfold S at hSw; go_simp; try with_reducible rfl)
    try simp only [Act.put, List.setIfInBounds_toArray, List.set_cons_zero, List.set_cons_succ]
    refine wpAnyH_take (i := 1) (v := ?_) (by simp only [List.getElem?_toArray, List.getElem?_cons_succ, List.getElem?_cons_zero]; rfl) (by kernel_rfl) (by kernel_rfl) (by kernel_rfl) (by exact fun _ _ _ h => h) (Or.inl ⟨by rfl, ?_⟩) (by assumption) ?_
    rotate_left
    · (intro w hSw; (try dsimp only at hSw); unfold S at hSw; go_simp; try with_reducible rfl)
    try simp only [Act.put, List.setIfInBounds_toArray, List.set_cons_zero, List.set_cons_succ]
    refine wpAnyH_take (i := 2) (v := ?_) (by simp only [List.getElem?_toArray, List.getElem?_cons_succ, List.getElem?_cons_zero]; rfl) (by kernel_rfl) (by kernel_rfl) (by kernel_rfl) (by exact fun _ _ _ h => h) (Or.inl ⟨by rfl, ?_⟩) (by assumption) ?_
    rotate_left
    · (intro w hSw; (try dsimp only at hSw); unfold S at hSw; go_simp; try with_reducible rfl)
    try simp only [Act.put, List.setIfInBounds_toArray, List.set_cons_zero, List.set_cons_succ]
    refine wpAnyH_take (i := 3) (v := ?_) (by simp only [List.getElem?_toArray, List.getElem?_cons_succ, List.getElem?_cons_zero]; rfl) (by kernel_rfl) (by kernel_rfl) (by kernel_rfl) (by exact fun _ _ _ h => h) (Or.inl ⟨by rfl, ?_⟩) (by assumption) ?_
    rotate_left
    · (intro w hSw; (try dsimp only at hSw); unfold S at hSw; go_simp; try with_reducible rfl)
    try simp only [Act.put, List.setIfInBounds_toArray, List.set_cons_zero, List.set_cons_succ]
    refine wpAnyH_take (i := 4) (v := ?_) (by simp only [List.getElem?_toArray, List.getElem?_cons_succ, List.getElem?_cons_zero]; rfl) (by kernel_rfl) (by kernel_rfl) (by kernel_rfl) (by exact fun _ _ _ h => h) (Or.inl ⟨by rfl, ?_⟩) (by assumption) ?_
    rotate_left
    · (intro w hSw; (try dsimp only at hSw); unfold S at hSw; go_simp; try with_reducible rfl)
    try simp only [Act.put, List.setIfInBounds_toArray, List.set_cons_zero, List.set_cons_succ]
    refine wpAnyH_take (i := 5) (v := ?_) (by simp only [List.getElem?_toArray, List.getElem?_cons_succ, List.getElem?_cons_zero]; rfl) (by kernel_rfl) (by kernel_rfl) (by kernel_rfl) (by exact fun _ _ _ h => h) (Or.inl ⟨by rfl, ?_⟩) (by assumption) ?_
    rotate_left
    · (intro w hSw; (try dsimp only at hSw); unfold S at hSw; go_simp; try with_reducible rfl)
    try simp only [Act.put, List.setIfInBounds_toArray, List.set_cons_zero, List.set_cons_succ]
    refine wpAnyH_take (i := 6) (v := ?_) (by simp only [List.getElem?_toArray, List.getElem?_cons_succ, List.getElem?_cons_zero]; rfl) (by kernel_rfl) (by kernel_rfl) (by kernel_rfl) (by exact fun _ _ _ h => h) (Or.inl ⟨by rfl, ?_⟩) (by assumption) ?_
    rotate_left
    · (intro w hSw; (try dsimp only at hSw); unfold S at hSw; go_simp; try with_reducible rfl)
    try simp only [Act.put, List.setIfInBounds_toArray, List.set_cons_zero, List.set_cons_succ]
    refine wpAnyH_take (i := 7) (v := ?_) (by simp only [List.getElem?_toArray, List.getElem?_cons_succ, List.getElem?_cons_zero]; rfl) (by kernel_rfl) (by kernel_rfl) (by kernel_rfl) (by exact fun _ _ _ h => h) (Or.inl ⟨by rfl, ?_⟩) (by assumption) ?_
    rotate_left
    · (intro w hSw; (try dsimp only at hSw); unfold S at hSw; go_simp; try with_reducible rfl)
    try simp only [Act.put, List.setIfInBounds_toArray, List.set_cons_zero, List.set_cons_succ]
    refine wpAnyH_take (i := 8) (v := ?_) (by simp only [List.getElem?_toArray, List.getElem?_cons_succ, List.getElem?_cons_zero]; rfl) (by kernel_rfl) (by kernel_rfl) (by kernel_rfl) (by exact fun _ _ _ h => h) (Or.inl ⟨by rfl, ?_⟩) (by assumption) ?_
    rotate_left
    · (intro w hSw; (try dsimp only at hSw); unfold S at hSw; go_simp; try with_reducible rfl)
    try simp only [Act.put, List.setIfInBounds_toArray, List.set_cons_zero, List.set_cons_succ]
    refine wpAnyH_take (i := 9) (v := ?_) (by simp only [List.getElem?_toArray, List.getElem?_cons_succ, List.getElem?_cons_zero]; rfl) (by kernel_rfl) (by kernel_rfl) (by kernel_rfl) (by exact fun _ _ _ h => h) (Or.inl ⟨by rfl, ?_⟩) (by assumption) ?_
    rotate_left
    · (intro w hSw; (try dsimp only at hSw); unfold S at hSw; go_simp; try with_reducible rfl)
    try simp only [Act.put, List.setIfInBounds_toArray, List.set_cons_zero, List.set_cons_succ]
    refine wpAnyH_ready (rs := [10]) (by kernel_rfl) (by simp) ?_
    refine AllReadyH.cons rfl (fun K hK => ?_) AllReadyH.nil
    go_simp
    refine hK.out _ _ ?_ (fun hHeld => ?_)
    · exact HS1.out
    clear hK K
    refine wpAnyH_ready (rs := [11]) (by kernel_rfl) (by simp) ?_
    refine AllReadyH.cons rfl (fun K hK => ?_) AllReadyH.nil
    go_simp
    refine hK.out _ _ ?_ (fun hHeld => ?_)
    · exact HS2.out
    clear hK K
    refine wpAnyH_take (i := 12) (v := ?_) (by simp only [List.getElem?_toArray, List.getElem?_cons_succ, List.getElem?_cons_zero]; rfl) (by kernel_rfl) (by kernel_rfl) (by kernel_rfl) (by exact fun _ _ _ h => h) (Or.inl ⟨by rfl, ?_⟩) (by assumption) ?_
    rotate_left
    · (intro w hSw; (try dsimp only at hSw); unfold S at hSw; go_simp; try with_reducible rfl)
    try simp only [Act.put, List.setIfInBounds_toArray, List.set_cons_zero, List.set_cons_succ]
    refine wpAnyH_take (i := 13) (v := ?_) (by simp only [List.getElem?_toArray, List.getElem?_cons_succ, List.getElem?_cons_zero]; rfl) (by kernel_rfl) (by kernel_rfl) (by kernel_rfl) (by exact fun _ _ _ h => h) (Or.inl ⟨by rfl, ?_⟩) (by assumption) ?_
    rotate_left
    · (intro w hSw; (try dsimp only at hSw); unfold S at hSw; go_simp; try with_reducible rfl)
    try simp only [Act.put, List.setIfInBounds_toArray, List.set_cons_zero, List.set_cons_succ]
    refine wpAnyH_take (i := 14) (v := ?_) (by simp only [List.getElem?_toArray, List.getElem?_cons_succ, List.getElem?_cons_zero]; rfl) (by kernel_rfl) (by kernel_rfl) (by kernel_rfl) (by exact fun _ _ _ h => h) (Or.inl ⟨by rfl, ?_⟩) (by assumption) ?_
    rotate_left
    · (intro w hSw; (try dsimp only at hSw); unfold S at hSw; go_simp; try with_reducible rfl)
    try simp only [Act.put, List.setIfInBounds_toArray, List.set_cons_zero, List.set_cons_succ]
    refine wpAnyH_take (i := 15) (v := ?_) (by simp only [List.getElem?_toArray, List.getElem?_cons_succ, List.getElem?_cons_zero]; rfl) (by kernel_rfl) (by kernel_rfl) (by kernel_rfl) (by exact fun _ _ _ h => h) (Or.inl ⟨by rfl, ?_⟩) (by assumption) ?_
    rotate_left
    · (intro w hSw; (try dsimp only at hSw); unfold S at hSw; go_simp; try with_reducible rfl)
    try simp only [Act.put, List.setIfInBounds_toArray, List.set_cons_zero, List.set_cons_succ]
    refine wpAnyH_done (by kernel_rfl) ?_ _
    go_wp2_with fail
    refine (B.field_any l ok _ _).mono ?_
    rintro e w1 ⟨rfl, hB⟩
    have HK : Hid (K w l w1) := HK.out.below hB
    have hld := HK.out.2.1.load
    clear hB
    go_wp2_with fail
    refine (B.with_any l ok _ _ HV.out _).mono ?_
    rintro e w2 ⟨rfl, hB⟩
    have HK : Hid (K w l w2) := HK.out.below hB
    obtain ⟨w3, hst3, _, _, _, hb3⟩ := B.new_rec w2 a okA.1
    have HK : Hid (K w l w3) := HK.out.below hb3
    clear hB hb3
    go_wp2_with fail
    refine (B.awake_any _ HK.out.1).mono ?_
    rintro e w4 ⟨rfl, hB⟩
    have HK : Hid (K w l w4) := HK.out.below hB
    clear hB
    go_wp2_with fail
    refine (B.awake_any _ HK.out.1).mono ?_
    rintro e w5 ⟨rfl, hB⟩
    have HK : Hid (K w l w5) := HK.out.below hB
    clear hB
    go_wp2
    go_ret
    exact ⟨rfl, HK.out.2.2⟩

set_option maxHeartbeats 6400000 in
set_option maxRecDepth 1000000 in
theorem yes_ (l a c d e : List Int) (ok : M.okR l) (okA : M.okR a) (okC : M.okR c) (okD : M.okR d) (okE : M.okR e) (f g v u : Int) (bv : 0 ≤ v ∧ v < 18446744073709551616) (bu : 0 ≤ u ∧ u < 18446744073709551616) (w : World) (hN : B.Nm w)
    (h1 : M.isF f = true) (h2 : M.fits f v = true) (ha : M.with_ l f v = a) (hb : M.with_ a f (M.field l f) = l) (hc : M.with_ a g u = c) (hd : M.with_ l g u = d) (he : M.with_ d f v = e)
    (hcase : M.fits g u = false ∨ (M.fits g u = true ∧ (f == g) = true ∧ d = c) ∨ (M.fits g u = true ∧ (f == g) = false ∧ e = c)) :
    Calls Tryd.prog 8 #[.agg (B.enc5 l f g v u)] w fun e w' => e = .returned (.bool true) ∧ Below w.heap.size w w' := by
  have HV : Hid ((0 ≤ v ∧ v < 18446744073709551616) ∧ (0 ≤ u ∧ u < 18446744073709551616) ∧ (0 ≤ M.field l f ∧ M.field l f < 18446744073709551616)) := ⟨bv, bu, M.field_bd ok f⟩
  have hsa : (B.enc a).size = 16 := B.enc_size okA.1
  have hsl : (B.enc l).size = 16 := B.enc_size ok.1
  have hsc : (B.enc c).size = 16 := B.enc_size okC.1
  have hsd : (B.enc d).size = 16 := B.enc_size okD.1
  have hse : (B.enc e).size = 16 := B.enc_size okE.1
  have hX := B.lcf_eq
  have hz := B.zero_lit
  have hg := B.guard24
  have hn1 : ∀ W, (binOp .neq 24 (.agg (B.enc l)) (.agg (B.enc l))).run Tryd.prog W = .ok (.bool false) W := fun W => by rw [B.neq24 l l ok.1 ok.1 W]; simp
  have hn2 : ∀ W, (binOp .neq 24 (.agg (B.enc c)) (.agg (B.enc c))).run Tryd.prog W = .ok (.bool false) W := fun W => by rw [B.neq24 c c okC.1 okC.1 W]; simp
  have hn3 : ∀ W, (binOp .eql 24 (.agg (B.enc c)) (.agg (B.enc c))).run Tryd.prog W = .ok (.bool true) W := fun W => by rw [B.eql24 c c okC.1 okC.1 W]; simp
  obtain ⟨W, W2, hW, hWs, hS0, hS1, hS2, hst, hK⟩ := start l ok f g v u w hN
  have HK : Hid (K w l W2) := hK
  have hld := hK.2.1.load
  generalize B.enc5 l f g v u = c5 at *
  have HS0 : Hid (S w c5 l f g v u W) := hS0
  have HS1 : Hid (S w c5 l f g v u (W.alloc (.cells (B.enc M.zero) 24))) := hS1
  have HS2 : Hid (S w c5 l f g v u W2) := hS2
  clear hN bv bu hK hS0 hS1 hS2
  go_enter Tryd.func8, Tryd.ntmps8
  go_wp2_with fail
  refine wp_region_held_drew (S := fun w' => S w c5 l f g v u w') (by kernel_rfl) (by rw [hW]; exact HS0.out) (fun hHeld => ?_)
  rw [hW] at hHeld ⊢
  change wpAnyH _ _ _ _ _ 16 #[false, false, false, false, false, false, false, false, false, false, false, false, false, false, false, false] _ _
  refine wpAnyH_take (i := 0) (v := ?_) (by simp only [List.getElem?_toArray, List.getElem?_cons_zero]; rfl) (by kernel_rfl) (by kernel_rfl) (by kernel_rfl) (by exact fun _ _ _ h => h) (Or.inl ⟨by rfl, ?_⟩) (by assumption) ?_
  rotate_left
  · (intro w hSw; (try dsimp only at hSw); unfold S at hSw; go_simp; try with_reducible rfl)
  try simp only [Act.put, List.setIfInBounds_toArray, List.set_cons_zero, List.set_cons_succ]
  refine wpAnyH_take (i := 1) (v := ?_) (by simp only [List.getElem?_toArray, List.getElem?_cons_succ, List.getElem?_cons_zero]; rfl) (by kernel_rfl) (by kernel_rfl) (by kernel_rfl) (by exact fun _ _ _ h => h) (Or.inl ⟨by rfl, ?_⟩) (by assumption) ?_
  rotate_left
  · (intro w hSw; (try dsimp only at hSw); unfold S at hSw; go_simp; try with_reducible rfl)
  try simp only [Act.put, List.setIfInBounds_toArray, List.set_cons_zero, List.set_cons_succ]
  refine wpAnyH_take (i := 2) (v := ?_) (by simp only [List.getElem?_toArray, List.getElem?_cons_succ, List.getElem?_cons_zero]; rfl) (by kernel_rfl) (by kernel_rfl) (by kernel_rfl) (by exact fun _ _ _ h => h) (Or.inl ⟨by rfl, ?_⟩) (by assumption) ?_
  rotate_left
  · (intro w hSw; (try dsimp only at hSw); unfold S at hSw; go_simp; try with_reducible rfl)
  try simp only [Act.put, List.setIfInBounds_toArray, List.set_cons_zero, List.set_cons_succ]
  refine wpAnyH_take (i := 3) (v := ?_) (by simp only [List.getElem?_toArray, List.getElem?_cons_succ, List.getElem?_cons_zero]; rfl) (by kernel_rfl) (by kernel_rfl) (by kernel_rfl) (by exact fun _ _ _ h => h) (Or.inl ⟨by rfl, ?_⟩) (by assumption) ?_
  rotate_left
  · (intro w hSw; (try dsimp only at hSw); unfold S at hSw; go_simp; try with_reducible rfl)
  try simp only [Act.put, List.setIfInBounds_toArray, List.set_cons_zero, List.set_cons_succ]
  refine wpAnyH_take (i := 4) (v := ?_) (by simp only [List.getElem?_toArray, List.getElem?_cons_succ, List.getElem?_cons_zero]; rfl) (by kernel_rfl) (by kernel_rfl) (by kernel_rfl) (by exact fun _ _ _ h => h) (Or.inl ⟨by rfl, ?_⟩) (by assumption) ?_
  rotate_left
  · (intro w hSw; (try dsimp only at hSw); unfold S at hSw; go_simp; try with_reducible rfl)
  try simp only [Act.put, List.setIfInBounds_toArray, List.set_cons_zero, List.set_cons_succ]
  refine wpAnyH_take (i := 5) (v := ?_) (by simp only [List.getElem?_toArray, List.getElem?_cons_succ, List.getElem?_cons_zero]; rfl) (by kernel_rfl) (by kernel_rfl) (by kernel_rfl) (by exact fun _ _ _ h => h) (Or.inl ⟨by rfl, ?_⟩) (by assumption) ?_
  rotate_left
  · (intro w hSw; (try dsimp only at hSw); unfold S at hSw; go_simp; try with_reducible rfl)
  try simp only [Act.put, List.setIfInBounds_toArray, List.set_cons_zero, List.set_cons_succ]
  refine wpAnyH_take (i := 6) (v := ?_) (by simp only [List.getElem?_toArray, List.getElem?_cons_succ, List.getElem?_cons_zero]; rfl) (by kernel_rfl) (by kernel_rfl) (by kernel_rfl) (by exact fun _ _ _ h => h) (Or.inl ⟨by rfl, ?_⟩) (by assumption) ?_
  rotate_left
  · (intro w hSw; (try dsimp only at hSw); unfold S at hSw; go_simp; try with_reducible rfl)
  try simp only [Act.put, List.setIfInBounds_toArray, List.set_cons_zero, List.set_cons_succ]
  refine wpAnyH_take (i := 7) (v := ?_) (by simp only [List.getElem?_toArray, List.getElem?_cons_succ, List.getElem?_cons_zero]; rfl) (by kernel_rfl) (by kernel_rfl) (by kernel_rfl) (by exact fun _ _ _ h => h) (Or.inl ⟨by rfl, ?_⟩) (by assumption) ?_
  rotate_left
  · (intro w hSw; (try dsimp only at hSw); unfold S at hSw; go_simp; try with_reducible rfl)
  try simp only [Act.put, List.setIfInBounds_toArray, List.set_cons_zero, List.set_cons_succ]
  refine wpAnyH_take (i := 8) (v := ?_) (by simp only [List.getElem?_toArray, List.getElem?_cons_succ, List.getElem?_cons_zero]; rfl) (by kernel_rfl) (by kernel_rfl) (by kernel_rfl) (by exact fun _ _ _ h => h) (Or.inl ⟨by rfl, ?_⟩) (by assumption) ?_
  rotate_left
  · (intro w hSw; (try dsimp only at hSw); unfold S at hSw; go_simp; try with_reducible rfl)
  try simp only [Act.put, List.setIfInBounds_toArray, List.set_cons_zero, List.set_cons_succ]
  refine wpAnyH_take (i := 9) (v := ?_) (by simp only [List.getElem?_toArray, List.getElem?_cons_succ, List.getElem?_cons_zero]; rfl) (by kernel_rfl) (by kernel_rfl) (by kernel_rfl) (by exact fun _ _ _ h => h) (Or.inl ⟨by rfl, ?_⟩) (by assumption) ?_
  rotate_left
  · (intro w hSw; (try dsimp only at hSw); unfold S at hSw; go_simp; try with_reducible rfl)
  try simp only [Act.put, List.setIfInBounds_toArray, List.set_cons_zero, List.set_cons_succ]
  refine wpAnyH_ready (rs := [10]) (by kernel_rfl) (by simp) ?_
  refine AllReadyH.cons rfl (fun K hK => ?_) AllReadyH.nil
  go_simp
  refine hK.out _ _ ?_ (fun hHeld => ?_)
  · exact HS1.out
  clear hK K
  refine wpAnyH_ready (rs := [11]) (by kernel_rfl) (by simp) ?_
  refine AllReadyH.cons rfl (fun K hK => ?_) AllReadyH.nil
  go_simp
  refine hK.out _ _ ?_ (fun hHeld => ?_)
  · exact HS2.out
  clear hK K
  refine wpAnyH_take (i := 12) (v := ?_) (by simp only [List.getElem?_toArray, List.getElem?_cons_succ, List.getElem?_cons_zero]; rfl) (by kernel_rfl) (by kernel_rfl) (by kernel_rfl) (by exact fun _ _ _ h => h) (Or.inl ⟨by rfl, ?_⟩) (by assumption) ?_
  rotate_left
  · (intro w hSw; (try dsimp only at hSw); unfold S at hSw; go_simp; try with_reducible rfl)
  try simp only [Act.put, List.setIfInBounds_toArray, List.set_cons_zero, List.set_cons_succ]
  refine wpAnyH_take (i := 13) (v := ?_) (by simp only [List.getElem?_toArray, List.getElem?_cons_succ, List.getElem?_cons_zero]; rfl) (by kernel_rfl) (by kernel_rfl) (by kernel_rfl) (by exact fun _ _ _ h => h) (Or.inl ⟨by rfl, ?_⟩) (by assumption) ?_
  rotate_left
  · (intro w hSw; (try dsimp only at hSw); unfold S at hSw; go_simp; try with_reducible rfl)
  try simp only [Act.put, List.setIfInBounds_toArray, List.set_cons_zero, List.set_cons_succ]
  refine wpAnyH_take (i := 14) (v := ?_) (by simp only [List.getElem?_toArray, List.getElem?_cons_succ, List.getElem?_cons_zero]; rfl) (by kernel_rfl) (by kernel_rfl) (by kernel_rfl) (by exact fun _ _ _ h => h) (Or.inl ⟨by rfl, ?_⟩) (by assumption) ?_
  rotate_left
  · (intro w hSw; (try dsimp only at hSw); unfold S at hSw; go_simp; try with_reducible rfl)
  try simp only [Act.put, List.setIfInBounds_toArray, List.set_cons_zero, List.set_cons_succ]
  refine wpAnyH_take (i := 15) (v := ?_) (by simp only [List.getElem?_toArray, List.getElem?_cons_succ, List.getElem?_cons_zero]; rfl) (by kernel_rfl) (by kernel_rfl) (by kernel_rfl) (by exact fun _ _ _ h => h) (Or.inl ⟨by rfl, ?_⟩) (by assumption) ?_
  rotate_left
  · (intro w hSw; (try dsimp only at hSw); unfold S at hSw; go_simp; try with_reducible rfl)
  try simp only [Act.put, List.setIfInBounds_toArray, List.set_cons_zero, List.set_cons_succ]
  refine wpAnyH_done (by kernel_rfl) ?_ _
  go_wp2_with fail
  refine (B.field_any l ok _ _).mono ?_
  rintro x w1 ⟨rfl, hB⟩
  have HK : Hid (K w l w1) := HK.out.below hB
  have hld := HK.out.2.1.load
  clear hB hst hW hWs
  go_wp2_with fail
  refine (B.with_any l ok _ _ HV.out.1 _).mono ?_
  rintro x w2 ⟨rfl, hB⟩
  have HK : Hid (K w l w2) := HK.out.below hB
  obtain ⟨w3, hst3, hA, _, _, hb3⟩ := B.new_rec w2 a okA.1
  have HK : Hid (K w l w3) := HK.out.below hb3
  have HA : Hid (B.Rec w3 w2.heap.size a) := hA
  clear hB hb3 hA
  go_wp2_with fail
  refine (B.awake_any _ HK.out.1).mono ?_
  rintro x w4 ⟨rfl, hB⟩
  have HK : Hid (K w l w4) := HK.out.below hB
  have HA : Hid (B.Rec w4 w2.heap.size a) := HA.out.below hB HA.out.lt
  have hla := HA.out.load
  clear hB hst3
  go_wp2_with fail
  refine (B.with_any a okA _ _ HV.out.2.2 _).mono ?_
  rintro x w5 ⟨rfl, hB⟩
  have HK : Hid (K w l w5) := HK.out.below hB
  have HA : Hid (B.Rec w5 w2.heap.size a) := HA.out.below hB HA.out.lt
  obtain ⟨w6, hst6, hBk, _, _, hb6⟩ := B.new_rec w5 l ok.1
  have HK : Hid (K w l w6) := HK.out.below hb6
  have HA : Hid (B.Rec w6 w2.heap.size a) := HA.out.below hb6 HA.out.lt
  have HBk : Hid (B.Rec w6 w5.heap.size l) := hBk
  have hla := HA.out.load
  clear hB hb6 hBk
  go_wp2_with fail
  refine (B.with_any a okA _ _ HV.out.2.1 _).mono ?_
  rintro x w7 ⟨rfl, hB⟩
  have HK : Hid (K w l w7) := HK.out.below hB
  have HBk : Hid (B.Rec w7 w5.heap.size l) := HBk.out.below hB HBk.out.lt
  obtain ⟨w8, hst8, hC, _, _, hb8⟩ := B.new_rec w7 c okC.1
  have HK : Hid (K w l w8) := HK.out.below hb8
  have HBk : Hid (B.Rec w8 w5.heap.size l) := HBk.out.below hb8 HBk.out.lt
  have HC : Hid (B.Rec w8 w7.heap.size c) := hC
  have hld := HK.out.2.1.load
  clear hB hb8 hC hst6
  go_wp2_with fail
  refine (B.with_any l ok _ _ HV.out.2.1 _).mono ?_
  rintro x w9 ⟨rfl, hB⟩
  have HK : Hid (K w l w9) := HK.out.below hB
  have HBk : Hid (B.Rec w9 w5.heap.size l) := HBk.out.below hB HBk.out.lt
  have HC : Hid (B.Rec w9 w7.heap.size c) := HC.out.below hB HC.out.lt
  obtain ⟨w10, hst10, hD, _, _, hb10⟩ := B.new_rec w9 d okD.1
  have HK : Hid (K w l w10) := HK.out.below hb10
  have HBk : Hid (B.Rec w10 w5.heap.size l) := HBk.out.below hb10 HBk.out.lt
  have HC : Hid (B.Rec w10 w7.heap.size c) := HC.out.below hb10 HC.out.lt
  have HD : Hid (B.Rec w10 w9.heap.size d) := hD
  have hlD := HD.out.load
  clear hB hb10 hD hst8
  go_wp2_with fail
  refine (B.with_any d okD _ _ HV.out.1 _).mono ?_
  rintro x w11 ⟨rfl, hB⟩
  have HK : Hid (K w l w11) := HK.out.below hB
  have HBk : Hid (B.Rec w11 w5.heap.size l) := HBk.out.below hB HBk.out.lt
  have HC : Hid (B.Rec w11 w7.heap.size c) := HC.out.below hB HC.out.lt
  have HD : Hid (B.Rec w11 w9.heap.size d) := HD.out.below hB HD.out.lt
  obtain ⟨w12, hst12, hE, _, _, hb12⟩ := B.new_rec w11 e okE.1
  have HK : Hid (K w l w12) := HK.out.below hb12
  have hl0 := HK.out.2.1.load
  have hlB := (HBk.out.below hb12 HBk.out.lt).load
  have hlC := (HC.out.below hb12 HC.out.lt).load
  have hlD := (HD.out.below hb12 HD.out.lt).load
  have hlE := hE.load
  clear hB hb12 hE hst10 HBk HC HD HA
  rcases hcase with t1 | ⟨t1, t2, t3⟩ | ⟨t1, t2, t3⟩
  · go_wp2
    go_ret
    exact ⟨rfl, HK.out.2.2⟩
  · subst t3
    go_wp2
    go_ret
    exact ⟨rfl, HK.out.2.2⟩
  · subst t3
    go_wp2
    go_ret
    exact ⟨rfl, HK.out.2.2⟩


set_option maxHeartbeats 3200000 in
set_option maxRecDepth 1000000 in
theorem walk (l0 : List Int) (ok0 : M.okR l0) (f0 g0 v0 u0 : Int) (bv0 : 0 ≤ v0 ∧ v0 < 18446744073709551616) (bu0 : 0 ≤ u0 ∧ u0 < 18446744073709551616) (w : World) (hN : B.Nm w) :
    Calls Tryd.prog 8 #[.agg (B.enc5 l0 f0 g0 v0 u0)] w fun e w' => e = .returned (.bool true) ∧ Below w.heap.size w w' := by
  rcases h1 : M.isF f0 with _ | _
  · exact no_ l0 ok0 f0 g0 v0 u0 bv0 w hN (.inl h1)
  · rcases h2 : M.fits f0 v0 with _ | _
    · exact no_ l0 ok0 f0 g0 v0 u0 bv0 w hN (.inr ⟨h1, h2⟩)
    · have okA := M.ok_with ok0 f0 v0 bv0
      have okD := M.ok_with ok0 g0 u0 bu0
      refine yes_ l0 _ _ _ _ ok0 okA (M.ok_with okA g0 u0 bu0) okD (M.ok_with okD f0 v0 bv0) f0 g0 v0 u0 bv0 bu0 w hN h1 h2 rfl (M.with_back ok0 f0 v0 bv0 h2) rfl rfl rfl ?_
      rcases h3 : M.fits g0 u0 with _ | _
      · exact .inl rfl
      · by_cases e : f0 = g0
        · subst e
          exact .inr (.inl ⟨rfl, by simp, (M.with_twice ok0 f0 v0 u0 bv0 bu0 h2 h3).symm⟩)
        · exact .inr (.inr ⟨rfl, by simp [e], (M.with_comm ok0 f0 g0 v0 u0 bv0 bu0 h2 h3 e).symm⟩)

set_option maxRecDepth 100000 in
theorem lifted (os : Os) (started : os.Started) (H : Type) (enc : TypeId × Value → H) :
    ReturnsInHanded {} Tryd.checked os 8 .any (fun w args => (Rows.recordUndoSpec.pre enc Tryd.prog Tryd.f8 [] false w args ∧ laidMetH Tryd.prog B.laidL w) ∧ sizedMet enc Tryd.prog Tryd.f8 (OpenSpec.ofChange Rows.recordUndoSpec) false w args)
      (Rows.recordUndoSpec.post enc Tryd.prog Tryd.f8 false true false false) := by
  refine returnsInHanded_of_change_and (C := Tryd.checked) (X := fun w _ => laidMetH Tryd.prog B.laidL w) (fun _ _ _ hh h => h.of_heap hh) own started (by kernel_rfl) Tryd.func8
    (ChangeSpec.witness_shaped (enc := enc) (C := Tryd.checked) (os := os) (X := fun w _ => laidMetH Tryd.prog B.laidL w) false (World.doorLaid Tryd.prog 400 os) #[.agg #[.int .u32 0, .int .u32 0, .int .u32 0, .int .u32 0, .int .u32 0, .int .u32 0, .int .u32 0, .int .u32 0, .int .u32 0, .int .u32 0, .int .u32 0, .int .u32 0, .int .u32 0, .int .u32 0, .int .u32 0, .int .u32 0, .int .i64 0, .int .i64 0, .int .u64 0, .int .u64 0]] 8 rfl (World.shaped_of_RefB (by kernel_rfl) (by kernel_rfl)) (by kernel_rfl) (by kernel_rfl) (by kernel_rfl) (B.door_met os _)) ?_
  intro W base args ds gs before hval0 hW _ _ hL _
  have hval : ∀ (j : Nat) t v, Tryd.f8.params[j]? = some t → args[j]? = some v → Value.okWide Tryd.prog W .any base t v := hval0
  have hW' := hW
  obtain ⟨p, q, hA0, hV, rfl, hfz, hnd⟩ := hW
  have hA : DataW.TrodAll enc Tryd.prog W 0 (fun _ => true) true Tryd.f8.params.toList args.toList ds p := hA0
  rw [Tryd.params8] at hA hval
  obtain ⟨v0, vs0, d0, ds0, p0, q0, hargs, rfl, rfl, h0, r0⟩ := trodAll_cons hA
  obtain ⟨rfl, rfl, rfl⟩ := trodAll_nil r0
  obtain rfl : args = #[v0] := by cases args; simp_all
  obtain ⟨rfl, rfl⟩ := trodVars_none hV
  obtain ⟨l0, f0, g0, x0, u0, rfl, hp0, ok0, bv0, bu0⟩ := B.arg_two (hval 0 51 v0 rfl rfl) h0
  clear hA0 hval0
  simp only [List.append_nil] at hW'
  have hlt0 : ∀ x ∈ p0, x.block < W.heap.size := fun x hx => by simpa using hW'.lt x (by simp [hx])
  refine (walk l0 ok0 f0 g0 x0 u0 bv0 bu0 W (B.of_laid hL) ).mono fun e W' ⟨he, hg⟩ => ?_
  subst he
  exact ⟨_, rfl, _, _, _, [], (p0 ++ []), [], hW', (trodAll_cons_mk (shut_bool Tryd.underlying4 _) trodAll_mk0), (trodAll_cons_mk (Below.trod laidOut (by kernel_rfl) (of_decide_eq_true (by kernel_rfl)) h0 hg hlt0) trodAll_mk0), rfl, hg.frame _, fun h => by cases h⟩

theorem over : Rows.recordUndoRow.holds Tryd.pinned (OpenSpec.ofChange Rows.recordUndoSpec) :=
  OpenClaim.holds_of_wide 8 Tryd.f8 rfl rfl rfl rfl rfl rfl rfl ⟨rfl, rfl, rfl, rfl, rfl⟩ rfl rfl rfl rfl rfl (by kernel_rfl) Tryd.func8 (by kernel_rfl)
    (of_decide_eq_true (by kernel_rfl)) (by unfold Func.isWrapper; first | (rw [if_pos (by decide +kernel)]; kernel_rfl) | (rw [if_neg (by decide +kernel)]; exact ⟨rfl, rfl⟩))
    (fun os started H enc _ => lifted os started H enc)

theorem proved : Rows.RecordUndoCardSaid :=
  Claim7.holds_tied_plain_at .later [] [.data] true (true, "09afddfe84cc98cca8d139d8bdbb4c0819ebacbcdf3cf43e811ae0c1d9354eb8") false
    over (fun _ h => by cases h) (by kernel_rfl) (fun _ h => by cases h) recordUndo_row_tie rfl ⟨rfl, rfl⟩ (by kernel_rfl) rfl
    (fun f fn hf hfn => by
      obtain rfl : f = 8 := Option.some.inj ((show Tryd.prog.funcNamed "tamis/tamislaw03.RecordUndo" = some 8 by kernel_rfl).symm.trans hf) |>.symm
      obtain rfl : fn = Tryd.f8 := (Option.some.inj (Tryd.func8.symm.trans hfn)).symm
      exact ⟨by kernel_rfl, fun j t ht => by
        rw [Tryd.params8] at ht
        have hm : t ∈ [51] := by simpa using Array.mem_of_getElem? ht
        have hall : ([51].all fun u => !Tryd.prog.wantsStandIn u) = true := by kernel_rfl
        exact (show Tryd.prog.wantsStandIn t = false by simpa using List.all_eq_true.1 hall t hm)⟩)
    (by kernel_rfl)
#print axioms proved
end Go.Proofs.YtgdgigldodbpeaaDoor.recordUndo
