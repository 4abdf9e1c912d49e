/-
  The values of a map, one by one, in whatever order; gathered in a row: as walks over the Go text (after the pattern of the shelf's own texts on keys).
-/
import Derived.Test.YtmooalbbaiccjaaCodFind
import Derived.Shelf.SlIter.Collect
import Derived.RangeFuncBound
namespace Go.Proofs.Ytmooalbbaiccjaa.B
open Go.ChangeShapes Go.WideShapes Go.ChangeAt Go.RowKit Go.Maps Go.Sort
set_option linter.unusedVariables false

/-- All have come: the pairs are the table's, in some order. -/
def AllOf (ps : List (List UInt8 × Int)) : Prop := ps.Perm M.tbl
theorem sz_D0 : Maps.size D0 = 41 := by decide +kernel

/-- The pairs met so far. -/
structure Met (left : Lit → Bool) (ps : List (List UInt8 × Int)) : Prop where
  nodup : (ps.map (·.1)).Nodup
  mem : ∀ p ∈ ps, p ∈ M.tbl
  come : ∀ p ∈ M.tbl, p ∈ ps ∨ left (ky p.1) = true
  gone : ∀ p ∈ ps, left (ky p.1) = false
theorem Met.start : Met (has D0) [] := ⟨by simp, by simp, fun p hp => .inr (by rw [has_D0, M.mem_find (c := p.2) hp]; rfl), by simp⟩
theorem Met.step {left : Lit → Bool} {ps : List (List UInt8 × Int)} (h : Met left ps) {x : List UInt8} {d : Int} (hm : (x, d) ∈ M.tbl) (hl : left (ky x) = true) : Met (fun z => left z && !z.sameKey (ky x)) (ps ++ [(x, d)]) := by
  have hself : (ky x).sameKey (ky x) = true := by simp [Lit.sameKey]
  refine ⟨?_, ?_, ?_, ?_⟩
  · rw [List.map_append, List.nodup_append]
    refine ⟨h.nodup, by simp, ?_⟩
    rintro a ha b hb rfl
    simp at hb
    obtain ⟨p, hp, e⟩ := List.mem_map.1 ha
    have := h.gone p hp
    rw [e, hb, hl] at this
    cases this
  · intro p hp
    rcases List.mem_append.1 hp with hp | hp
    · exact h.mem p hp
    · simp at hp; rw [hp]; exact hm
  · intro p hp
    rcases h.come p hp with h1 | h1
    · exact .inl (List.mem_append.2 (.inl h1))
    · by_cases e : p.1 = x
      · left
        have : p = (x, d) := M.nodup_inj M.keys_nodup hp hm e
        rw [this]; simp
      · right; exact left_step h1 e
  · intro p hp
    rcases List.mem_append.1 hp with hp | hp
    · simp [h.gone p hp]
    · simp at hp; rw [hp]; simp [hself]
theorem Met.done {left : Lit → Bool} {ps : List (List UInt8 × Int)} (h : Met left ps) (hl : ∀ z, left z = false) : AllOf ps := by
  have h1 : ps.Nodup := by
    have := h.nodup
    rw [List.nodup_iff_pairwise_ne] at this ⊢
    rw [List.pairwise_map] at this
    exact this.imp fun hne e => hne (by rw [e])
  have h2 : M.tbl.Nodup := by decide
  refine (List.perm_ext_iff_of_nodup h1 h2).2 fun p => ⟨h.mem p, fun hp => ?_⟩
  rcases h.come p hp with h3 | h3
  · exact h3
  · rw [hl] at h3; cases h3

set_option maxRecDepth 100000 in
set_option maxHeartbeats 4000000 in
theorem values1_in (n : Nat) (hn : 1 ≤ n) (l Bm b : Nat) (J : List Int → World → Prop)
    (hY : ∀ pre x W, J pre W → pre.length < 41 → YieldAt Fence.wide (n - 1) Try.prog l #[.int .u16 x] W fun e W' => e = .returned (.bool true) ∧ J (pre ++ [x]) W' ∧ KeepsWalks W W')
    (W : World) (hJ : AbidesFrom W.heap.size J) (hm : W.cell? ⟨Bm, 0, none⟩ = some (.map (some b))) (hown : W.ownsMap Try.prog 9 (plainElem Try.prog 22) b 41 D0) (h0 : J [] W) :
    CallsIn Fence.wide n Try.prog 28 #[.func (.yield l) #[] #[], .pointer (some ⟨Bm, 0, none⟩)] W fun e W' => (∃ v, e = .returned v) ∧ ∃ xs, (∃ ps, AllOf ps ∧ xs = ps.map (·.2)) ∧ J xs W' := by
  refine callsIn_of_wp Try.func28 rfl trivial ?_ rfl
  simp only [Try.ntmps28, List.size_toArray, List.length_cons, List.length_nil, Nat.reduceAdd, Nat.reduceSub, Array.replicate_succ, Array.replicate_zero, List.push_toArray, List.append_toArray, List.nil_append, List.cons_append]
  gi_wp2_with (first
    | (gi_at_range; refine wpListIn_range_own _ rfl _ 34 rfl 9 22 law Try.underlying34 _ b 41 _ rfl hown ?_; intro w0 hrg0 hg0 hs0)
    | gi_in)
  go_frame
  gi_loopw [4] (fun _ wr => ∃ (left : Lit → Bool) (cnt : Nat) (ps : List (List UInt8 × Int)), wr.ranges Try.prog 9 (plainElem Try.prog 22) b W.heap.size 41 D0 left cnt ∧ ps.length + cnt ≤ 41 ∧ Met left ps ∧ J (ps.map (·.2)) wr)
    (fun _ wr => wr.rangeLeft b W.heap.size)
  case atStart =>
    exact ⟨_, _, [], hrg0, by rw [sz_D0]; simp, Met.start, hJ [] W w0 none h0 hg0 (fun r e => by cases e)⟩
  case round =>
    obtain ⟨left, cnt, ps, hrg, hcs, hC, hJs⟩ := hrel
    gi_wp2_with (first
      | (gi_at_next; refine wpListIn_next_ranges _ rfl _ rfl 9 law (plainElem Try.prog 22) encStr (Value.int .u16) (fun key kl hk => by obtain ⟨x, hx, _⟩ := Maps.keyOf_str Try.underlying9 hk; exact ⟨x, hx⟩) (fun v y hv => by obtain ⟨c, rfl, _⟩ := plainElem_int_inv Try.underlying22 hv; exact ⟨c, rfl⟩) b W.heap.size 41 _ _ _ rfl hrg ?_ ?_)
      | gi_in)
    · intro hc0 hl0
      gi_wp2
      go_end0
      exact ⟨⟨_, rfl⟩, _, ⟨ps, hC.done hl0, rfl⟩, hJs⟩
    · intro x d kl yd yp w2 cnt2 hkey hlk hv hat hrg2 hlt hg2 hs2 hen
      obtain ⟨x', ex, rfl, _⟩ := Maps.keyOf_str Try.underlying9 hkey
      obtain rfl : x = x' := encStr_inj ex
      obtain ⟨c', ec, ez, _⟩ := plainElem_int_inv Try.underlying22 hv
      obtain rfl : d = c' := by simpa using ec
      obtain rfl : yd = vl d := (Prod.mk.inj ez).1
      have hf : M.find x = some d := by
        have h1 := hat (vl 0); have h2 := hat (vl 1)
        rw [at_D0] at h1 h2
        cases e : M.find x with
        | none => rw [e] at h1 h2; simp at h1 h2; omega
        | some q => rw [e] at h1; simp at h1; rw [h1]
      have hJ2 : J (ps.map (·.2)) w2 := hJ _ wr w2 (some W.heap.size) hJs hg2 (fun r e => by cases e; exact ⟨Nat.le_refl _, hrg.iter_walk⟩)
      obtain ⟨fn, tmps, assign, body, hy, hR⟩ := hY (ps.map (·.2)) d w2 hJ2 (by simp; omega)
      have hC2 := hid (hC.step (M.find_mem hf) hlk)
      clear hs2 hat hv hkey hf
      gi_wp2
      refine hR.mono ?_
      rintro e W3 ⟨rfl, hJ3, hk3⟩
      gi_wp2
      have hrg3 := hrg2.of_walks hk3
      go_roundw
      case rel => exact ⟨_, cnt2, ps ++ [(x, d)], hrg3, by simp; omega, hC2.out, by simpa using hJ3⟩
      case measure => rw [hrg3.left_eq, hrg.left_eq]; exact hlt

theorem values_gives (n : Nat) (hn : 1 ≤ n) (Bm b : Nat) (w : World) (hBm : Bm < w.heap.size)
    (hm : w.cell? ⟨Bm, 0, none⟩ = some (.map (some b))) (hown : w.ownsMap Try.prog 9 (plainElem Try.prog 22) b 41 D0) :
    SeqGives Fence.wide n Try.prog 28 #[.pointer (some ⟨Bm, 0, none⟩)] (Value.int .u16) (fun xs => ∃ ps, AllOf ps ∧ xs = ps.map (·.2)) 41 w := fun l J W hW hJ hY h0 => by
  have hown' : W.ownsMap Try.prog 9 (plainElem Try.prog 22) b 41 D0 := by
    have hbl := hown.lt
    obtain ⟨es, clock, hb, Ft, hs, hD⟩ := hown
    exact ⟨es, clock, (hW.block b hbl).trans hb, Ft, hs, hD⟩
  exact values1_in n hn l Bm b J hY W hJ ((hW.cell (p := ⟨Bm, 0, none⟩) hBm).trans hm) hown' h0
end Go.Proofs.Ytmooalbbaiccjaa.B
