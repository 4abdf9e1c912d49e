/-
  The program's straight (a filter with jumps that go straight), as a walk over the Go text.
-/
import Derived.Test.YtfmlefadifpocaaPruCodC
import Derived.Test.YtfmlefadifpocaaJR
namespace Go.Proofs.Ytfmlefadifpocaa.B
open Go.ChangeShapes Go.WideShapes Go.ChangeAt Go.RowKit
open Go.Sort hiding Below
set_option linter.unusedVariables false

theorem infoI : (Try.prog.info? 38).map (fun i => (i.zero, i.size, i.bytes)) = some (some (.agg #[.int .u16 0, .int .u8 0, .int .u8 0, .int .u32 0]), 4, 8) := by kernel_rfl
theorem made_get4 (a b c d : Value) (n j q : Nat) (h : j < n) (hq : q < 4) : (madeCells #[a, b, c, d] (n * 4)).toList[j * 4 + q]? = [a, b, c, d][q]? := by
  have h4 : q = 0 ∨ q = 1 ∨ q = 2 ∨ q = 3 := by omega
  rcases h4 with rfl | rfl | rfl | rfl
  · have h2 : j * 4 < n * 4 := by omega
    simp [madeCells, List.getElem?_range h2]
  · have h2 : j * 4 + 1 < n * 4 := by omega
    have h3 : (j * 4 + 1) % 4 = 1 := by omega
    simp [madeCells, h2, h3]
  · have h2 : j * 4 + 2 < n * 4 := by omega
    have h3 : (j * 4 + 2) % 4 = 2 := by omega
    simp [madeCells, h2, h3]
  · have h2 : j * 4 + 3 < n * 4 := by omega
    have h3 : (j * 4 + 3) % 4 = 3 := by omega
    simp [madeCells, h2, h3]
theorem Ro.made {W : World} {base g n cap : Nat} (h : W.ownsRow base 38 4 (.slice (some ⟨g, 0, none⟩) n cap) n (madeCells (Value.agg #[.int .u16 0, .int .u8 0, .int .u8 0, .int .u32 0]).cells (n * 4)).toList) : Ro W g n (fun _ => (0, 0, 0, 0)) := by
  have hc : ∀ j q, j < n → q < 4 → W.cell? ⟨g, j * 4 + q, none⟩ = [Value.int .u16 0, .int .u8 0, .int .u8 0, .int .u32 0][q]? := fun j q h1 h2 => (h.cellAt (j * 4 + q) (by omega)).trans (made_get4 _ _ _ _ n j q h1 h2)
  exact ⟨(h.lt g rfl).2, fun j hj => hc j 0 hj (by omega), fun j hj => hc j 1 hj (by omega), fun j hj => hc j 2 hj (by omega), fun j hj => hc j 3 hj (by omega), fun k => h.frozenAt k⟩
theorem Ro.setC {W : World} {g n : Nat} {X : Nat → M.I} (h : Ro W g n X) (i : Nat) (hi : i < n) (v : Int) : Ro (W.setCell ⟨g, i * 4, none⟩ (.int .u16 v)) g n (fun j => if j = i then (v, (X i).2.1, (X i).2.2.1, (X i).2.2.2) else X j) := by
  refine ⟨by simpa using h.lt, fun j hj => ?_, fun j hj => ?_, fun j hj => ?_, fun j hj => ?_, fun k => by rw [World.frozen?_setCell]; exact h.fz k⟩
  · by_cases e : j = i
    · subst e; rw [if_pos rfl, World.cell?_setCell_same _ _ _ (h.c0 j hj)]
    · rw [if_neg e, World.cell?_setCell_other _ _ _ _ (by intro e2; injection e2 with _ e2; omega)]; exact h.c0 j hj
  · rw [World.cell?_setCell_other _ _ _ _ (by intro e; injection e with _ e; omega), h.c1 j hj]
    by_cases e : j = i
    · subst e; rw [if_pos rfl]
    · rw [if_neg e]
  · rw [World.cell?_setCell_other _ _ _ _ (by intro e; injection e with _ e; omega), h.c2 j hj]
    by_cases e : j = i
    · subst e; rw [if_pos rfl]
    · rw [if_neg e]
  · rw [World.cell?_setCell_other _ _ _ _ (by intro e; injection e with _ e; omega), h.c3 j hj]
    by_cases e : j = i
    · subst e; rw [if_pos rfl]
    · rw [if_neg e]
def putI (W : World) (g i : Nat) (c t f k : Int) : World := (((W.setCell ⟨g, i * 4, none⟩ (.int .u16 c)).setCell ⟨g, i * 4 + 1, none⟩ (.int .u8 t)).setCell ⟨g, i * 4 + 2, none⟩ (.int .u8 f)).setCell ⟨g, i * 4 + 3, none⟩ (.int .u32 k)
theorem Ro.put {W : World} {g n : Nat} {X : Nat → M.I} (h : Ro W g n X) (i : Nat) (hi : i < n) (c t f k : Int) : Ro (putI W g i c t f k) g n (fun j => if j = i then (c, t, f, k) else X j) :=
  ((((h.setC i hi c).setT i hi t).setF i hi f).setK i hi k).congr fun j _ => by
    by_cases e : j = i
    · simp [e]
    · simp [e]
theorem putI_below {w W : World} {g i B : Nat} {c t f k : Int} (h : Below B w W) (hg : B ≤ g) : Below B w (putI W g i c t f k) := (((h.setCell hg _).setCell hg _).setCell hg _).setCell hg _
theorem putI_off {W : World} {g i b j : Nat} {c t f k : Int} (h : g ≠ b) : (putI W g i c t f k).cell? ⟨b, j, none⟩ = W.cell? ⟨b, j, none⟩ := by
  unfold putI
  rw [World.cell?_setCell_far _ _ _ _ h, World.cell?_setCell_far _ _ _ _ h, World.cell?_setCell_far _ _ _ _ h, World.cell?_setCell_far _ _ _ _ h]
/-- one cell in a block of its own -/
def One (W : World) (b : Nat) (v : Value) (T : TypeId) : Prop := W.heap[b]? = some (.cells #[v] T (0, 0))
theorem One.lt {W : World} {b : Nat} {v : Value} {T : TypeId} (h : One W b v T) : b < W.heap.size := by
  rcases Nat.lt_or_ge b W.heap.size with h' | h'
  · exact h'
  · unfold One at h; rw [Array.getElem?_eq_none h'] at h; cases h
theorem One.far {W W' : World} {b B : Nat} {v : Value} {T : TypeId} (h : One W b v T) (hb : Below B W W') (hB : b < B) : One W' b v T := by
  have := hb.block b hB
  unfold One at *
  rw [this]; exact h
theorem One.below {W W' : World} {b : Nat} {v : Value} {T : TypeId} (h : One W b v T) (hb : Below W.heap.size W W') : One W' b v T := h.far hb h.lt
theorem One.cell {W : World} {b : Nat} {v : Value} {T : TypeId} (h : One W b v T) : W.cell? ⟨b, 0, none⟩ = some v := by
  unfold One at h; simp [World.cell?, h]
theorem One.froz {W : World} {b : Nat} {v : Value} {T : TypeId} (h : One W b v T) (k : Nat) : W.frozen? ⟨b, k, none⟩ = false := by
  unfold One at h; simp [World.frozen?, h]
theorem One.new (W : World) (v : Value) (T : TypeId) : One (W.alloc (.cells #[v] T)) W.heap.size v T := by
  unfold One; exact World.alloc_heap_new W _
theorem One.alloc {W : World} {b : Nat} {v : Value} {T : TypeId} (h : One W b v T) (o : Obj) : One (W.alloc o) b v T := h.below (al W o)
theorem One.set {W : World} {b : Nat} {v : Value} {T : TypeId} (u : Value) (h : One W b v T) : One (W.setCell ⟨b, 0, none⟩ u) b u T := set_cells _ h
theorem One.off {W : World} {b b' j : Nat} {v u : Value} {T : TypeId} (h : One W b v T) (hne : b ≠ b') : One (W.setCell ⟨b', j, none⟩ u) b v T := by
  unfold One at *
  rw [Below.heap_setCell _ _ _ _ hne]; exact h
theorem One.put {W : World} {g i b : Nat} {c t f k : Int} {v : Value} {T : TypeId} (h : One W b v T) (hne : b ≠ g) : One (putI W g i c t f k) b v T := (((h.off hne).off hne).off hne).off hne

theorem cturn_str (b o n cap k : Nat) (l : List M.I) (hln : l.length = n) (hn : n ≤ 4096) (ok : ∀ i ∈ l, M.okI i) (hr : M.right l) (hk : k < n) (c t f d : Int) (hx : M.at0 l k = (c, t, f, d)) (lim : Int)
    (hl1 : M.kind c = 12 → lim = (k : Int) + 256) (hl2 : M.kind c ≠ 12 → lim = n) (c1 c2 c3 : Nat) (w : World) (h1 : w.cell? ⟨c1, 0, none⟩ = some (.slice (some ⟨b, o, none⟩) n cap)) (h2 : w.cell? ⟨c2, 0, none⟩ = some (.int .i64 k)) (h3 : w.cell? ⟨c3, 0, none⟩ = some (.int .i64 lim)) (hl : Ly w b o l) (y : M.I) (hy : M.strI l k = y) :
    Calls Try.prog 34 #[.agg #[.int .u16 c, .int .u8 t, .int .u8 f, .int .u32 d], .func (.func 45) #[] #[.pointer (some ⟨c1, 0, none⟩), .pointer (some ⟨c2, 0, none⟩), .pointer (some ⟨c3, 0, none⟩)]] w fun e w' => e = .returned (.agg #[.int .u16 y.1, .int .u8 y.2.1, .int .u8 y.2.2.1, .int .u32 y.2.2.2]) ∧ Below w.heap.size w w' := by
  have hkl : k < l.length := by omega
  have hok : M.okI (c, t, f, d) := by rw [← hx, M.at0_eq hkl]; exact ok _ (List.getElem_mem hkl)
  obtain ⟨_, b1, b2, b3⟩ := id hok
  simp only at b1 b2 b3
  have cf : ∀ {a : Nat} {v : Value} {W : World}, w.cell? ⟨a, 0, none⟩ = some v → Below w.heap.size w W → W.cell? ⟨a, 0, none⟩ = some v := fun h hb => (hb.cell (block_lt_of_cell h)).trans h
  by_cases k1 : M.kind c = 11
  · have hj : M.isJa (M.at0 l k) = true := by rw [hx]; exact M.isJa_iff.2 k1
    have ht : M.tgt l k = k + 1 + d.toNat := by unfold M.tgt; rw [hx]
    have htl := M.tgt_lt hr ok hj
    have hE := M.endOf_ja hj
    have hE1 := M.endOf_gt hj
    have hE2 := M.endOf_lt hr ok hkl
    rw [← hy, M.strI_ja hj, hx]
    obtain ⟨q, rfl⟩ : ∃ q : Nat, d = q := ⟨d.toNat, by omega⟩
    simp only [Int.toNat_natCast] at ht
    rw [ht] at hE hE1 htl
    have el := hl2 (by omega)
    subst el
    exact cturn_jaS c t f q hok c1 c2 c3 w k1 (M.endOf l k - k - 1) (by omega) (fun W hW => cfar b o n cap k q (M.endOf l k) (M.endOf l k - k - 1) n (by omega) (by omega) (by omega) (by omega) c1 c2 c3 W
      (fun W2 hb => along_end b o n cap (k + 1 + q) _ (by omega) l hln hn ok hr (by omega) (M.endOf l k) hE.symm W2 ((hl.below hW).below hb)) (cf h1 hW) (cf h2 hW) (cf h3 hW))
  · by_cases k2 : M.kind c = 12
    · have k2' : M.kind (M.at0 l k).1 = 12 := by rw [hx]; exact k2
      have hrt : M.rets (M.at0 l k) = false := by unfold M.rets; rw [k2']; rfl
      have gs : ∀ b, M.sel b k (M.at0 l k) < l.length := fun b => M.beh_lt hr ok hkl (M.mem_beh.2 (M.mem_sel.2 ⟨hrt, b, rfl⟩))
      have g1 := gs true
      have g2 := gs false
      unfold M.sel at g1 g2
      rw [if_neg (by omega), if_pos k2', if_pos rfl, hx] at g1
      rw [if_neg (by omega), if_pos k2', if_neg (by simp), hx] at g2
      rw [← hy, M.strI_jif k2', hx]
      obtain ⟨q, rfl⟩ : ∃ q : Nat, t = q := ⟨t.toNat, by omega⟩
      obtain ⟨p, rfl⟩ : ∃ p : Nat, f = p := ⟨f.toNat, by omega⟩
      simp only [Int.toNat_natCast] at g1 g2 ⊢
      have gA1 := M.strt_ge l k (k + 1 + q)
      have gA2 := M.strt_near (l := l) (f := k) (t := k + 1 + q) (by omega)
      have gA3 := M.strt_lt hr ok (f := k) g1
      have gC1 := M.strt_ge l k (k + 1 + p)
      have gC2 := M.strt_near (l := l) (f := k) (t := k + 1 + p) (by omega)
      have gC3 := M.strt_lt hr ok (f := k) g2
      have el := hl1 k2
      exact cturn_jifS c q p d hok c1 c2 c3 w k2 (M.strt l k (k + 1 + q) - k - 1) (M.strt l k (k + 1 + p) - k - 1) (by omega) (by omega)
        (fun W hW => cfar b o n cap k q (M.strt l k (k + 1 + q)) (M.strt l k (k + 1 + q) - k - 1) lim (by omega) (by omega) (by omega) (by omega) c1 c2 c3 W
          (fun W2 hb => along_near b o n cap k (k + 1 + q) _ (by omega) l hln hn ok hr (by omega) _ rfl lim el W2 ((hl.below hW).below hb)) (cf h1 hW) (cf h2 hW) (cf h3 hW))
        (fun W hW => cfar b o n cap k p (M.strt l k (k + 1 + p)) (M.strt l k (k + 1 + p) - k - 1) lim (by omega) (by omega) (by omega) (by omega) c1 c2 c3 W
          (fun W2 hb => along_near b o n cap k (k + 1 + p) _ (by omega) l hln hn ok hr (by omega) _ rfl lim el W2 ((hl.below hW).below hb)) (cf h1 hW) (cf h2 hW) (cf h3 hW))
    · rw [← hy, M.strI_no (by rw [hx]; exact k1) (by rw [hx]; exact k2), hx]
      exact cturn_noS c t f d hok c1 c2 c3 w k1 k2
end Go.Proofs.Ytfmlefadifpocaa.B
