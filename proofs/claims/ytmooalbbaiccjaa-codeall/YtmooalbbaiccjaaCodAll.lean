/-
  All codes, in order, as walks over the Go text.
-/
import Derived.Test.YtmooalbbaiccjaaCodGather
import Derived.Test.YtmooalbbaiccjaaSrtPdq
namespace Go.Proofs.Ytmooalbbaiccjaa.B
open Go.ChangeShapes Go.WideShapes Go.ChangeAt Go.RowKit Go.Maps
open Go.Sort hiding Below
set_option linter.unusedVariables false

theorem codes_unique {d d' : Array Int} (hd : d.toList.Perm M.codes) (hp : PermIn 0 41 d d') (ho : SortedIn ltInt 0 41 d') : d' = M.codes.toArray := by
  have h41 : d.size = 41 := by have := hd.length_eq; simpa [M.codes] using this
  have h41' : d'.size = 41 := by rw [hp.1]; exact h41
  have e1 : d'.extract 0 41 = d' := by rw [← h41']; simp
  have e2 : d.extract 0 41 = d := by rw [← h41]; simp
  have hpp := hp.2.2
  rw [e1, e2] at hpp
  have h1 : d'.toList.Pairwise (fun a b => decide (a ≤ b) = true) := by
    rw [List.pairwise_iff_getElem]
    intro i j hi hj hij
    have hi' : i < d'.size := by simpa using hi
    have hj' : j < d'.size := by simpa using hj
    have := ho i j (Nat.zero_le _) hij (by omega)
    rw [getElem!_pos d' i hi', getElem!_pos d' j hj'] at this
    simp only [ltInt, decide_eq_false_iff_not] at this
    simp only [Array.getElem_toList, decide_eq_true_eq]
    omega
  have h2 : M.codes.Pairwise (fun a b => decide (a ≤ b) = true) := M.codes_sorted.imp fun h => by simp; omega
  have := List.Perm.eq_of_pairwise (le := fun a b => decide (a ≤ b) = true) (fun a b _ _ h3 h4 => by simp at h3 h4; omega) h1 h2 (hpp.trans hd)
  rw [← this]

theorem holds16 {w : World} {g : Nat} {cur : Array Value} {e : TypeId} {ss : List Int} (hb : w.heap[g]? = some (.cells cur e (0, 0))) (ht : cur.toList.take ss.length = ss.map (Value.int .u16)) : Holds (Value.int .u16) w g 0 ss.toArray := by
  intro j hj
  have hj' : j < ss.length := by simpa using hj
  refine ⟨?_, by simp [World.frozen?, hb]⟩
  have h1 : (cur.toList.take ss.length)[j]? = (ss.map (Value.int .u16))[j]? := by rw [ht]
  rw [List.getElem?_take_of_lt hj', List.getElem?_map] at h1
  simp only [List.getElem?_eq_getElem hj', Option.map_some] at h1
  rw [getElem!_pos _ j (by simpa using hj')]
  simpa [World.cell?, hb] using h1

set_option maxRecDepth 100000 in
set_option maxHeartbeats 4000000 in
theorem sorted_any (Bm b : Nat) (w : World) (hBm : Bm < w.heap.size)
    (hm : w.cell? ⟨Bm, 0, none⟩ = some (.map (some b))) (hown : w.ownsMap Try.prog 9 (plainElem Try.prog 22) b 41 D0) :
    Calls Try.prog 24 #[.func (.func 28) #[] #[.pointer (some ⟨Bm, 0, none⟩)]] w fun e w' =>
      ∃ g cap, e = .returned (.slice (some ⟨g, 0, none⟩) 41 cap) ∧ Rw 41 w.heap.size g 0 w M.codes.toArray w' := by
  have hc := callsIn_wide.1 (collect_in 6 (by omega) 28 #[.pointer (some ⟨Bm, 0, none⟩)] (fun args w => by first | rfl | simp [go_sem]) _ 41 (by unfold maxLen; omega) (by omega) w (values_gives 4 (by omega) Bm b w hBm hm hown))
  have HC := hid hc
  clear hc
  go_enter Try.func24, Try.ntmps24
  go_wp2_with fail
  refine Calls.mono HC.out ?_
  clear HC
  rintro e W ⟨v, ss, rfl, ⟨ps, hps, rfl⟩, hrow, hnil, hb⟩
  have hp : (ps.map (·.2)).Perm M.codes := (hps.map _).trans M.codes_perm
  have hlen : (ps.map (·.2)).length = 41 := by rw [hp.length_eq]; rfl
  generalize ps.map (·.2) = ss at hrow hp hlen hnil
  rcases hrow.2 with ⟨_, hz⟩ | ⟨g, cap, cur, rfl, hbase, hgb, r1, r2, r3, r4⟩
  · omega
  · have hH : Holds (Value.int .u16) W g 0 ss.toArray := holds16 hgb (by simpa using r4)
    have hgl : g < W.heap.size := (Array.getElem?_eq_some_iff.1 hgb).1
    rw [hlen]
    have hs := sort_any (N := 41) (n₀ := w.heap.size) (b := g) (o := 0) (w := w) cap ss.toArray W ⟨by simp [hlen], hH, hb, hbase, hgl⟩ (by omega)
    have HS := hid hs
    have HP := hid hp
    clear hs hH hgl hgb r1 r2 r3 r4 hbase hrow hnil hb hp
    go_wp2_with fail
    refine Calls.mono HS.out ?_
    rintro e W2 ⟨rfl, d', h1, h2, h3⟩
    have e1 : d' = M.codes.toArray := codes_unique (d := ss.toArray) (by simpa using HP.out) h1 h2
    subst e1
    have H3 := hid h3
    clear h1 h2 h3 HS HP
    go_wp2
    go_ret
    exact ⟨g, cap, rfl, H3.out⟩

theorem cell_box (w : World) (v : Value) (t : TypeId) : (w.alloc (.cells #[v] t)).cell? ⟨w.heap.size, 0, none⟩ = some v := by
  simp only [World.cell?, World.alloc_heap_new]
  rfl
theorem Mp.box {w : World} {b : Nat} {W : World} (h : Mp w b W) (o : Obj) : (W.alloc o).ownsMap Try.prog 9 (plainElem Try.prog 22) b 41 D0 := h.own.alloc o

set_option maxRecDepth 100000 in
set_option maxHeartbeats 4000000 in
theorem all_any (w : World) :
    Calls Try.prog 21 #[] w fun e w' => ∃ g cap, e = .returned (.slice (some ⟨g, 0, none⟩) 41 cap) ∧ Rw 41 w.heap.size g 0 w M.codes.toArray w' := by
  go_enter Try.func21, Try.ntmps21
  go_wp2_with fail
  refine (codes_any _).mono ?_
  rintro e w1 ⟨rfl, h1⟩
  have H1 := hid h1
  clear h1
  go_wp2_with fail
  refine (values_any _ _).mono ?_
  rintro e w2 ⟨rfl, rfl⟩
  go_wp2_with fail
  refine (sorted_any w1.heap.size w.heap.size _ (by simp) (cell_box _ _ _) (H1.out.box _)).mono ?_
  rintro e w3 ⟨g, cap, rfl, h3⟩
  have H3 : Hid (Rw 41 w.heap.size g 0 w M.codes.toArray w3) := by
    have hb := (H1.out.below.alloc H1.out.below.size (.cells #[.map (some w.heap.size)] 34))
    have hs := hb.size
    exact ⟨h3.size, h3.holds, hb.trans (h3.below.mono hs), Nat.le_trans hs h3.fresh, h3.lt⟩
  clear h3 H1
  go_wp2
  go_ret
  exact ⟨g, cap, rfl, H3.out⟩
end Go.Proofs.Ytmooalbbaiccjaa.B
