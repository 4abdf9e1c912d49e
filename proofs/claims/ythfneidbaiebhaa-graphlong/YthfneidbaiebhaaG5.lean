/-
  The reference's Blocks, its first half, as a walk over the Go text.
-/
import Derived.Test.YthfneidbaiebhaaG4
import Derived.Laws.CopyOwn
import Derived.Deep.RegionLaw
import Derived.Deep.AppendLies
namespace Go.Proofs.Ythfneidbaiebhaa.B
open Go.ChangeShapes Go.WideShapes Go.ChangeAt Go.RowKit
open Go.Sort hiding Below
set_option linter.unusedVariables false

theorem infoB : (Try.prog.info? 43).map (fun i => (i.zero, i.size, i.bytes)) = some (some (.agg #[.int .i64 0, .int .i64 0, .slice none 0 0]), 3, 40) := by kernel_rfl
def b3 (l : List M.I) (fs : List Nat) : List Value := fs.flatMap fun (f : Nat) => [.int .i64 (f : Int), .int .i64 ((M.toOf l f : Nat) : Int), .slice none 0 0]
theorem b3_snoc (l : List M.I) (fs : List Nat) (f : Nat) : b3 l (fs ++ [f]) = b3 l fs ++ [.int .i64 (f : Int), .int .i64 ((M.toOf l f : Nat) : Int), .slice none 0 0] := by
  unfold b3; rw [List.flatMap_append]; rfl
theorem b3_get (l : List M.I) : ∀ (fs : List Nat) (i : Nat) (h : i < fs.length), (b3 l fs)[i * 3]? = some (.int .i64 (fs[i] : Int)) ∧ (b3 l fs)[i * 3 + 1]? = some (.int .i64 ((M.toOf l fs[i] : Nat) : Int)) ∧ (b3 l fs)[i * 3 + 2]? = some (.slice none 0 0) := by
  intro fs
  induction fs with
  | nil => intro i h; cases h
  | cons f fs ih =>
    intro i h
    have e : b3 l (f :: fs) = [.int .i64 (f : Int), .int .i64 ((M.toOf l f : Nat) : Int), .slice none 0 0] ++ b3 l fs := rfl
    rw [e]
    cases i with
    | zero => exact ⟨rfl, rfl, rfl⟩
    | succ i =>
      have h' : i < fs.length := by simp at h; omega
      obtain ⟨a, b, c⟩ := ih i h'
      refine ⟨?_, ?_, ?_⟩
      · rw [List.getElem?_append_right (by simp; omega), show (i + 1) * 3 - [Value.int .i64 (f : Int), .int .i64 ((M.toOf l f : Nat) : Int), .slice none 0 0].length = i * 3 by simp; omega, a]; rfl
      · rw [List.getElem?_append_right (by simp; omega), show (i + 1) * 3 + 1 - [Value.int .i64 (f : Int), .int .i64 ((M.toOf l f : Nat) : Int), .slice none 0 0].length = i * 3 + 1 by simp; omega, b]; rfl
      · rw [List.getElem?_append_right (by simp; omega), show (i + 1) * 3 + 2 - [Value.int .i64 (f : Int), .int .i64 ((M.toOf l f : Nat) : Int), .slice none 0 0].length = i * 3 + 2 by simp; omega, c]
theorem own_slice {W : World} {base : Nat} {e : TypeId} {size : Nat} {v : Value} {n : Nat} {xs : List Value} (h : W.ownsRow base e size v n xs) : ∃ a c, v = .slice a n c ∧ (∀ A, a = some A → base ≤ A.block ∧ A.block < W.heap.size) := by
  rcases h.2 with ⟨h1, h2⟩ | ⟨g, c, cur, h1, h2, h3, _⟩
  · exact ⟨none, 0, by rw [h1, h2], fun A hA => by cases hA⟩
  · refine ⟨_, c, h1, fun A hA => ?_⟩
    injection hA with hA
    subst hA
    exact h.lt g (by rw [h1]; rfl)
theorem own_off {W : World} {base : Nat} {e : TypeId} {size : Nat} {a : Option Addr} {c0 n : Nat} {xs : List Value} {b k : Nat} {x : Value} (h : W.ownsRow base e size (.slice a n c0) n xs) (hne : ∀ A, a = some A → A.block ≠ b) : (W.setCell ⟨b, k, none⟩ x).ownsRow base e size (.slice a n c0) n xs := by
  refine ⟨h.1, ?_⟩
  rcases h.2 with h1 | ⟨g, c, cur, h1, h2, h3, h4⟩
  · exact .inl h1
  · have hg : g ≠ b := by
      injection h1 with h1
      exact hne _ h1
    exact .inr ⟨g, c, cur, h1, h2, by rw [Below.heap_setCell _ _ _ _ hg]; exact h3, h4⟩
/-- a block that is being made -/
def BkB (W : World) (b f t : Nat) : Prop := W.heap[b]? = some (.cells #[.int .i64 (f : Int), .int .i64 (t : Int), .slice none 0 0] 43 (0, 0))
theorem BkB.lt {W : World} {b f t : Nat} (h : BkB W b f t) : b < W.heap.size := (Array.getElem?_eq_some_iff.1 h).1
theorem BkB.below {W W' : World} {b f t : Nat} (h : BkB W b f t) (hb : Below W.heap.size W W') : BkB W' b f t := by
  unfold BkB at *; rw [hb.block b (Array.getElem?_eq_some_iff.1 h).1]; exact h
theorem BkB.cells {W : World} {b f t : Nat} (h : BkB W b f t) : W.cell? ⟨b, 0, none⟩ = some (.int .i64 (f : Int)) ∧ W.cell? ⟨b, 1, none⟩ = some (.int .i64 (t : Int)) ∧ W.cell? ⟨b, 2, none⟩ = some (.slice none 0 0) ∧ W.frozen? ⟨b, 1, none⟩ = false := by
  unfold BkB at h
  exact ⟨by simp [World.cell?, h], by simp [World.cell?, h], by simp [World.cell?, h], by simp [World.frozen?, h]⟩
theorem BkB.set {W : World} {b f t : Nat} (h : BkB W b f t) (t' : Nat) : BkB (W.setCell ⟨b, 1, none⟩ (.int .i64 (t' : Int))) b f t' := set_cells _ h
def mzT (W : World) (b n : Nat) : Nat := match W.cell? ⟨b, 1, none⟩ with
  | some (.int _ p) => n - p.toNat
  | _ => 0
theorem mzT_eq {W : World} {b f t n : Nat} (h : BkB W b f t) : mzT W b n = n - t := by
  unfold mzT; rw [h.cells.2.1]; simp
/-- the leaders' numbers, as they are known behind k places -/
def numV (l : List M.I) (k j : Nat) : Nat := if j < k ∧ M.lead l j = true then M.numb l j else 0
theorem numV_no {l : List M.I} {k : Nat} (h : M.lead l k = false) (j : Nat) : numV l (k + 1) j = numV l k j := by
  unfold numV
  by_cases e : j = k
  · subst e; rw [if_neg (by rw [h]; simp), if_neg (by omega)]
  · by_cases e2 : j < k ∧ M.lead l j = true
    · rw [if_pos e2, if_pos ⟨by omega, e2.2⟩]
    · rw [if_neg e2, if_neg (fun h => e2 ⟨by omega, h.2⟩)]
theorem numV_yes {l : List M.I} {k : Nat} (h : M.lead l k = true) (j : Nat) : numV l (k + 1) j = if j = k then M.numb l k else numV l k j := by
  unfold numV
  by_cases e : j = k
  · subst e; rw [if_pos ⟨by omega, h⟩, if_pos rfl]
  · rw [if_neg e]
    by_cases e2 : j < k ∧ M.lead l j = true
    · rw [if_pos e2, if_pos ⟨by omega, e2.2⟩]
    · rw [if_neg e2, if_neg (fun h => e2 ⟨by omega, h.2⟩)]
theorem numb_le (l : List M.I) (k : Nat) : M.numb l k ≤ k := by
  unfold M.numb
  have := List.length_filter_le (M.lead l) (List.range k)
  rw [List.length_range] at this
  exact this

theorem Nx.far {w w' : World} {a : Option Addr} {js : List Nat} {B : Nat} (h : Nx w a js) (hb : Below B w w') (hB : ∀ A, a = some A → A.block < B) : Nx w' a js := by
  rcases h with h | ⟨g, rfl, h1, h2⟩
  · exact .inl h
  · exact .inr ⟨g, rfl, Nat.lt_of_lt_of_le h1 hb.size, fun j hj => (hb.cell (p := ⟨g, j, none⟩) (hB ⟨g, 0, none⟩ rfl)).trans (h2 j hj)⟩
/-- block number j lies in the row at g -/
def BkOk (W : World) (g B j : Nat) (b : M.Bk) : Prop := W.cell? ⟨g, j * 3, none⟩ = some (.int .i64 (b.f : Int)) ∧ W.cell? ⟨g, j * 3 + 1, none⟩ = some (.int .i64 (b.t : Int)) ∧ W.frozen? ⟨g, j * 3 + 2, none⟩ = false ∧ ∃ a c, W.cell? ⟨g, j * 3 + 2, none⟩ = some (.slice a b.n.length c) ∧ Nx W a b.n ∧ ∀ A, a = some A → A.block < B ∧ A.block ≠ g
theorem froz_far {w w' : World} {B g k : Nat} (hb : Below B w w') (hg : g < B) (h : w.frozen? ⟨g, k, none⟩ = false) : w'.frozen? ⟨g, k, none⟩ = false := by
  have e := hb.block g hg
  unfold World.frozen? at *
  simp only at *
  rw [e]; exact h
theorem BkOk.far {W W' : World} {g B j B' : Nat} {b : M.Bk} (h : BkOk W g B j b) (hb : Below B' W W') (hg : g < B') (hB : B ≤ B') : BkOk W' g B' j b := by
  obtain ⟨h1, h2, h3, a, c, h4, h5, h6⟩ := h
  exact ⟨(hb.cell (p := ⟨g, j * 3, none⟩) hg).trans h1, (hb.cell (p := ⟨g, j * 3 + 1, none⟩) hg).trans h2, froz_far hb hg h3, a, c, (hb.cell (p := ⟨g, j * 3 + 2, none⟩) hg).trans h4, h5.far hb (fun A hA => Nat.lt_of_lt_of_le (h6 A hA).1 hB), fun A hA => ⟨Nat.lt_of_lt_of_le (h6 A hA).1 hB, (h6 A hA).2⟩⟩
theorem BkOk.off {W : World} {g B j k : Nat} {b : M.Bk} {v : Value} (h : BkOk W g B j b) (h0 : k ≠ j * 3) (h1 : k ≠ j * 3 + 1) (h2 : k ≠ j * 3 + 2) : BkOk (W.setCell ⟨g, k, none⟩ v) g B j b := by
  obtain ⟨a1, a2, a3, a, c, a4, a5, a6⟩ := h
  refine ⟨?_, ?_, ?_, a, c, ?_, a5.off (fun A hA => (a6 A hA).2), a6⟩
  · rw [World.cell?_setCell_other _ _ _ _ (by first | (simp; done) | (simp; omega))]; exact a1
  · rw [World.cell?_setCell_other _ _ _ _ (by first | (simp; done) | (simp; omega))]; exact a2
  · rw [World.frozen?_setCell]; exact a3
  · rw [World.cell?_setCell_other _ _ _ _ (by first | (simp; done) | (simp; omega))]; exact a4
def lf (l : List M.I) (j : Nat) : Nat := (M.leads l).getD j 0
theorem lf_eq {l : List M.I} {j : Nat} (h : j < (M.leads l).length) : lf l j = (M.leads l)[j] := by
  unfold lf; rw [List.getD_eq_getElem?_getD, List.getElem?_eq_getElem h]; rfl
/-- the blocks, as they are known when those behind the first i are -/
def bq (l : List M.I) (i j : Nat) : M.Bk := if j < i then M.blk l (lf l j) else ⟨lf l j, M.toOf l (lf l j), []⟩

set_option maxHeartbeats 6400000 in
set_option maxRecDepth 1000000 in
theorem rblocks_any (b o n cap : Nat) (l : List M.I) (hln : l.length = n) (hn : n ≤ 65536) (ok : ∀ i ∈ l, M.okI i) (hr : M.right l) (w : World) (hl : Ly w b o l) :
    Calls Try.prog 21 #[.slice (some ⟨b, o, none⟩) n cap] w fun e w' => ∃ g c, e = .returned (.slice (some ⟨g, 0, none⟩) (M.leads l).length c) ∧ (∀ j, j < (M.leads l).length → BkOk w' g w'.heap.size j (M.blk l (lf l j))) ∧ g < w'.heap.size ∧ Below w.heap.size w w' ∧ w.heap.size ≤ g := by
  obtain ⟨i0, hi, hz0, hz1, hz2⟩ := info_parts infoi
  obtain ⟨iB, hBi, hB0, hB1, hB2⟩ := info_parts infoB
  have h0 : 0 < n := by rw [← hln]; exact ((M.right_iff l).1 hr).1.1
  have HC := hid (rleaders_any b o n cap l hln hn ok hr w hl)
  have HH := hid (And.intro hln (And.intro ok (And.intro hl hr)))
  have hbl : b < w.heap.size := hl.1
  clear hln ok hl hr
  go_enter Try.func21, Try.ntmps21
  go_wp2_with fail
  refine HC.out.mono ?_
  rintro e w1 ⟨gl, rfl, hR, hb, hg⟩
  have HR := hid (And.intro hR (And.intro hb hg))
  clear hR hb hg HC
  go_wp2_with (at_make; refine wpList_make_full _ rfl _ _ 24 rfl w1.heap.size 3 i0 (.int .i64 0) 1 Try.underlying24 hi hz0 hz1 .i64 .i64 n n n rfl rfl rfl rfl ?c1 ?c2 (Nat.le_refl _) ?_)
  case c1 => rw [hz2]; omega
  case c2 => unfold maxLen; omega
  intro wm hown hgrow
  have hbm : Below w1.heap.size w1 wm := (Below.refl _ _).grown hgrow (Nat.le_refl _) (by intro k hk; cases hk)
  have hR0 : Row wm w1.heap.size n (fun j => .int .i64 ((numV l 0 j : Nat) : Int)) := (Row.of_own hown (fun j hj => made_get (.int .i64 0) n j hj) (hown.lt _ rfl).2).congr fun j _ => by unfold numV; rw [if_neg (by omega)]; rfl
  have hgl : gl < w1.heap.size := HR.out.1.lt
  have hw1 : w.heap.size ≤ w1.heap.size := HR.out.2.1.size
  have hwm : w1.heap.size < wm.heap.size := hR0.lt
  have HM := hid (show Row wm gl n (fun j => .bool (M.lead l j)) ∧ Row wm w1.heap.size n (fun j => .int .i64 ((numV l 0 j : Nat) : Int)) ∧ Below w.heap.size w wm ∧ wm.ownsRow wm.heap.size 43 3 (.slice none 0 0) 0 [] from
    ⟨HR.out.1.below hbm, hR0, (stp (hid HR.out.2.1) hbm).out, World.ownsRow_nil _ _ _ _⟩)
  clear hown hgrow hbm hR0 HR
  go_wp2
  go_loopw [4, 6] (fun v i wr => ∃ k : Nat, k ≤ n ∧ i = .int .i64 k ∧ Hid (Row wr gl n (fun j => .bool (M.lead l j)) ∧ Row wr w1.heap.size n (fun j => .int .i64 ((numV l k j : Nat) : Int)) ∧ Below w.heap.size w wr ∧ wr.ownsRow wm.heap.size 43 3 v (M.numb l k) (b3 l (M.leadsK l k)) ∧ wm.heap.size ≤ wr.heap.size)) (fun _ i _ => n - (intOf i).toNat)
  case atStart => exact ⟨0, Nat.zero_le _, rfl, HM.out.1, HM.out.2.1, HM.out.2.2.1, HM.out.2.2.2, Nat.le_refl _⟩
  case round =>
    clear HM
    obtain ⟨k, hk, rfl, HR⟩ := hrel
    by_cases hlt : k < n
    · have i2 : (k : Int) < (n : Int) := by omega
      have hkl : k < l.length := by rw [HH.out.1]; exact hlt
      have cl := HR.out.1.cell k hlt
      cases hd : M.lead l k with
      | false =>
        simp only [hd] at cl
        have HF := hid (show M.numb l (k + 1) = M.numb l k ∧ M.leadsK l (k + 1) = M.leadsK l k ∧ ∀ j, numV l (k + 1) j = numV l k j from
          ⟨by rw [M.numb_succ, hd]; simp, by rw [M.leadsK_succ, hd]; simp, numV_no hd⟩)
        clear hd
        go_wp2
        go_roundw
        case rel => exact ⟨k + 1, by omega, by go_num, HR.out.1, HR.out.2.1.congr fun j _ => by rw [HF.out.2.2], HR.out.2.2.1, by rw [HF.out.1, HF.out.2.1]; exact HR.out.2.2.2.1, HR.out.2.2.2.2⟩
        case measure => simp [intOf]; omega
      | true =>
        simp only [hd] at cl
        obtain ⟨a, cc, hv, hab⟩ := own_slice HR.out.2.2.2.1
        rw [hv] at HR ⊢
        clear hv
        obtain ⟨m, hm⟩ : ∃ m, M.numb l k = m := ⟨_, rfl⟩
        have hmb : m ≤ 65536 := by rw [← hm]; have := numb_le l k; omega
        have HF := hid (show M.numb l (k + 1) = m + 1 ∧ M.leadsK l (k + 1) = M.leadsK l k ++ [k] ∧ (∀ j, numV l (k + 1) j = if j = k then m else numV l k j) from
          ⟨by rw [M.numb_succ, hd, hm]; simp, by rw [M.leadsK_succ, hd]; simp, by intro j; rw [numV_yes hd, hm]⟩)
        rw [hm] at HR ⊢
        have HT := hid (M.toOf_spec HH.out.2.2.2 hkl)
        clear hd hm
        have c1 := HR.out.2.1.cell k hlt
        have f1 := HR.out.2.1.froz k hlt
        have hwr : wm.heap.size ≤ wr.heap.size := HR.out.2.2.2.2
        obtain ⟨WA, hWA⟩ : ∃ WA, wr.setCell ⟨w1.heap.size, k, none⟩ (.int .i64 (m : Int)) = WA := ⟨_, rfl⟩
        have hszA : WA.heap.size = wr.heap.size := by rw [← hWA]; simp
        have HA := hid (show Row WA gl n (fun j => .bool (M.lead l j)) ∧ Row WA w1.heap.size n (fun j => .int .i64 ((numV l (k + 1) j : Nat) : Int)) ∧ Below w.heap.size w WA ∧ WA.ownsRow wm.heap.size 43 3 (.slice a m cc) m (b3 l (M.leadsK l k)) from
          ⟨by rw [← hWA]; exact HR.out.1.other _ _ _ (by omega), by rw [← hWA]; exact (HR.out.2.1.set k hlt _).congr (fun j hj => by rw [HF.out.2.2]; by_cases e : j = k <;> simp [e]), by rw [← hWA]; exact HR.out.2.2.1.setCell (by simp; omega) _, by rw [← hWA]; exact own_off HR.out.2.2.2.1 (fun A hA => by have := (hab A hA).1; omega)⟩)
        obtain ⟨H, hH⟩ : ∃ H, wr.heap.size = H := ⟨_, rfl⟩
        rw [hH] at hwr hszA hab
        clear HR
        have HI := hid (show BkB (WA.alloc (.cells #[.int .i64 (k : Int), .int .i64 (k : Int), .slice none 0 0] 43)) H k k ∧ Row (WA.alloc (.cells #[.int .i64 (k : Int), .int .i64 (k : Int), .slice none 0 0] 43)) gl n (fun j => .bool (M.lead l j)) ∧ Row (WA.alloc (.cells #[.int .i64 (k : Int), .int .i64 (k : Int), .slice none 0 0] 43)) w1.heap.size n (fun j => .int .i64 ((numV l (k + 1) j : Nat) : Int)) ∧ Below w.heap.size w (WA.alloc (.cells #[.int .i64 (k : Int), .int .i64 (k : Int), .slice none 0 0] 43)) ∧ (WA.alloc (.cells #[.int .i64 (k : Int), .int .i64 (k : Int), .slice none 0 0] 43)).ownsRow wm.heap.size 43 3 (.slice a m cc) m (b3 l (M.leadsK l k)) from
          ⟨by unfold BkB; rw [← hszA]; exact heap_alloc_last WA _, HA.out.1.below (al _ _), HA.out.2.1.below (al _ _), (stp (hid HA.out.2.2.1) (al _ _)).out, HA.out.2.2.2.alloc _⟩)
        clear HA
        go_wp2
        clear hH hWA
        go_loopw [] (fun wr => ∃ t : Nat, k ≤ t ∧ t ≤ M.toOf l k ∧ Hid (BkB wr H k t ∧ Row wr gl n (fun j => .bool (M.lead l j)) ∧ Row wr w1.heap.size n (fun j => .int .i64 ((numV l (k + 1) j : Nat) : Int)) ∧ Below w.heap.size w wr ∧ wr.ownsRow wm.heap.size 43 3 (.slice a m cc) m (b3 l (M.leadsK l k)))) (fun wr => mzT wr H n)
        case atStart => exact ⟨k, Nat.le_refl _, HT.out.1, HI.out⟩
        case round =>
          clear HI
          obtain ⟨t, ht1, ht2, HQ⟩ := hrel
          obtain ⟨b0, b1, b2, b3'⟩ := HQ.out.1.cells
          have htl : t < l.length := by have := HT.out.2.1; omega
          have htn : t < n := by rw [← HH.out.1]; exact htl
          have HS := hid (rstops_any b o n cap gl t l HH.out.1 hn htl HH.out.2.1 HH.out.2.2.2 _ (HH.out.2.2.1.far HQ.out.2.2.2.1 hbl) HQ.out.2.1)
          by_cases hte : t = M.toOf l k
          · have hs : M.stp l t = true := by rw [hte]; exact HT.out.2.2.1
            rw [hs] at HS
            have HTE := hid hte
            clear hs hte ht2
            go_wp2_with fail
            refine HS.out.mono ?_
            rintro e w5 ⟨rfl, hb⟩
            have h5 := HQ.out.1.below hb
            obtain ⟨d0, d1, d2, d3⟩ := h5.cells
            have hbw : H < w5.heap.size := h5.lt
            have HV5 := hid (show Row w5 gl n (fun j => .bool (M.lead l j)) ∧ Row w5 w1.heap.size n (fun j => .int .i64 ((numV l (k + 1) j : Nat) : Int)) ∧ Below w.heap.size w w5 ∧ w5.ownsRow wm.heap.size 43 3 (.slice a m cc) m (b3 l (M.leadsK l k)) ∧ wm.heap.size ≤ w5.heap.size from
              ⟨HQ.out.2.1.below hb, HQ.out.2.2.1.below hb, (stp (hid HQ.out.2.2.2.1) hb).out, own_below HQ.out.2.2.2.2 hb, by omega⟩)
            clear hb h5 HQ HS b0 b1 b2 b3'
            go_wp2_with (at_builtin; refine wpList_append_lies _ rfl _ _ 39 rfl wm.heap.size 43 iB (.agg #[.int .i64 0, .int .i64 0, .slice none 0 0]) 3 40 Try.underlying39 hBi hB0 hB1 hB2 rfl (by decide) _ m _ rfl (HV5.out.2.2.2.1.alloc _) ⟨w5.heap.size, 0, none⟩ 1 1 [.int .i64 (k : Int), .int .i64 (t : Int), .slice none 0 0] rfl rfl ?c1 ?c2 (by decide) ?c3 ?c4 ?c5 (w5.heap.size + 1) ?c6 ?_)
            case c1 => exact World.news_of_block (fr := (0, 0)) (t := 43) (by have := heap_alloc_new w5 (Obj.cells #[.int .i64 (k : Int), .int .i64 (t : Int), .slice none 0 0] 43); simpa using this)
            case c2 => intro u hu; simp at hu; rcases hu with rfl | rfl | rfl <;> rfl
            case c3 => unfold maxLen; omega
            case c4 => omega
            case c5 => have := HV5.out.2.2.2.2; simp; omega
            case c6 => simp
            intro g cap2 w6 hown hgrow _ _
            have hb6 : Below wm.heap.size w5 w6 := ((Below.refl _ w5).alloc HV5.out.2.2.2.2 _).grown hgrow (by have := HV5.out.2.2.2.2; simp; omega) (fun k hk => (HV5.out.2.2.2.1.lt k hk).1)
            have HZ := hid (show Row w6 gl n (fun j => .bool (M.lead l j)) ∧ Row w6 w1.heap.size n (fun j => .int .i64 ((numV l (k + 1) j : Nat) : Int)) ∧ Below w.heap.size w w6 ∧ w6.ownsRow wm.heap.size 43 3 (.slice (some ⟨g, 0, none⟩) (m + 1) cap2) (M.numb l (k + 1)) (b3 l (M.leadsK l (k + 1))) ∧ wm.heap.size ≤ w6.heap.size from
              ⟨HV5.out.1.far hb6 (by omega), HV5.out.2.1.far hb6 hwm, HV5.out.2.2.1.trans (hb6.mono (by omega)), by rw [HF.out.1, HF.out.2.1, b3_snoc, ← HTE.out]; exact hown, Nat.le_trans HV5.out.2.2.2.2 hb6.size⟩)
            clear hown hgrow hb6 HV5 d0 d1 d2 d3 HTE HT HF
            go_wp2
            go_roundw
            case rel => exact ⟨k + 1, by omega, by go_num, HZ.out⟩
            case measure => simp [intOf]; omega
          · have hs : M.stp l t = false := HT.out.2.2.2 t ht1 (by omega)
            rw [hs] at HS
            have htt : t + 1 ≤ M.toOf l k := by omega
            clear hs hte ht2
            go_wp2_with fail
            refine HS.out.mono ?_
            rintro e w5 ⟨rfl, hb⟩
            have h5 := HQ.out.1.below hb
            obtain ⟨d0, d1, d2, d3⟩ := h5.cells
            have hbw : H < w5.heap.size := h5.lt
            have HF5 := hid (show BkB (w5.setCell ⟨H, 1, none⟩ (.int .i64 ((t : Int) + 1))) H k (t + 1) ∧ Row (w5.setCell ⟨H, 1, none⟩ (.int .i64 ((t : Int) + 1))) gl n (fun j => .bool (M.lead l j)) ∧ Row (w5.setCell ⟨H, 1, none⟩ (.int .i64 ((t : Int) + 1))) w1.heap.size n (fun j => .int .i64 ((numV l (k + 1) j : Nat) : Int)) ∧ Below w.heap.size w (w5.setCell ⟨H, 1, none⟩ (.int .i64 ((t : Int) + 1))) ∧ (w5.setCell ⟨H, 1, none⟩ (.int .i64 ((t : Int) + 1))).ownsRow wm.heap.size 43 3 (.slice a m cc) m (b3 l (M.leadsK l k)) from
              ⟨h5.set (t + 1), (HQ.out.2.1.below hb).other _ _ _ (by omega), (HQ.out.2.2.1.below hb).other _ _ _ (by omega), (stp (hid HQ.out.2.2.2.1) hb).out.setCell (by simp; omega) _, own_off (own_below HQ.out.2.2.2.2 hb) (fun A hA => by have := (hab A hA).2; omega)⟩)
            have HMz := hid (show mzT (w5.setCell ⟨H, 1, none⟩ (.int .i64 ((t : Int) + 1))) H n < mzT wr H n by rw [mzT_eq HF5.out.1, mzT_eq HQ.out.1]; omega)
            clear hb h5 HQ HS b0 b1 b2 b3' d0
            go_wp2
            go_roundw
            case rel => exact ⟨t + 1, by omega, by omega, HF5.out⟩
            case measure => exact HMz.out
    · obtain rfl : k = n := by omega
      have hML : M.numb l k = (M.leads l).length := by rw [M.leads_len, HH.out.1]
      have hMp : 0 < (M.leads l).length := by
        have := M.numb_lt l (show 0 < k from h0) (M.lead_zero l)
        rw [← hML]; omega
      obtain ⟨m, hm⟩ : ∃ m, (M.leads l).length = m := ⟨_, rfl⟩
      rw [hm] at hML hMp
      rw [hML] at HR
      obtain ⟨g, cc, hv⟩ := own_form HR.out.2.2.2.1 hMp
      rw [hv] at HR ⊢
      clear hv
      have hgb := HR.out.2.2.2.1.lt g rfl
      have hmb : m ≤ 65536 := by rw [← hML]; have := numb_le l k; omega
      have HI := hid (show (∀ j, j < m → BkOk wr g wr.heap.size j (bq l 0 j)) ∧ Row wr w1.heap.size k (fun j => .int .i64 ((numV l k j : Nat) : Int)) ∧ Below w.heap.size w wr ∧ g < wr.heap.size ∧ (∀ j, 0 ≤ j → j < m → wr.cell? ⟨g, j * 3 + 2, none⟩ = some (.slice none 0 0)) from
        ⟨fun j hj => by
          have hjl : j < (M.leadsK l k).length := by rw [M.leadsK_len, hML]; exact hj
          have hjL : j < (M.leads l).length := by rw [hm]; exact hj
          obtain ⟨e1, e2, e3⟩ := b3_get l (M.leadsK l k) j hjl
          have hlf : lf l j = (M.leadsK l k)[j] := by
            rw [lf_eq hjL]
            show (M.leadsK l l.length)[j] = _
            simp only [HH.out.1]
          have hc := fun i hi => HR.out.2.2.2.1.cellAt i hi
          have hb : bq l 0 j = ⟨lf l j, M.toOf l (lf l j), []⟩ := by unfold bq; rw [if_neg (by omega)]
          rw [hb, hlf]
          exact ⟨(hc (j * 3) (by omega)).trans e1, (hc (j * 3 + 1) (by omega)).trans e2, HR.out.2.2.2.1.frozenAt _, none, 0, (hc (j * 3 + 2) (by omega)).trans e3, .inl rfl, fun A hA => by cases hA⟩, HR.out.2.1, HR.out.2.2.1, hgb.2, fun j _ hj => (HR.out.2.2.2.1.cellAt (j * 3 + 2) (by omega)).trans (b3_get l (M.leadsK l k) j (by rw [M.leadsK_len, hML]; exact hj)).2.2⟩)
      have hgw : wm.heap.size ≤ g := hgb.1
      clear HR hML hgb
      have HM2 := hid hm
      clear hm
      go_wp2
      go_loopw [8] (fun iv wr => ∃ i : Nat, i ≤ m ∧ iv = .int .i64 i ∧ Hid ((∀ j, j < m → BkOk wr g wr.heap.size j (bq l i j)) ∧ Row wr w1.heap.size k (fun j => .int .i64 ((numV l k j : Nat) : Int)) ∧ Below w.heap.size w wr ∧ g < wr.heap.size ∧ (∀ j, i ≤ j → j < m → wr.cell? ⟨g, j * 3 + 2, none⟩ = some (.slice none 0 0)))) (fun iv _ => m - (intOf iv).toNat)
      case atStart => exact ⟨0, Nat.zero_le _, rfl, HI.out⟩
      case round =>
        clear HI
        obtain ⟨i, him, rfl, HQ⟩ := hrel
        by_cases hil : i < m
        · have i3 : (i : Int) < (m : Int) := by omega
          have hiL : i < (M.leads l).length := by rw [HM2.out]; exact hil
          obtain ⟨f, hf⟩ : ∃ f, lf l i = f := ⟨_, rfl⟩
          have hfm := M.leads_mem.1 (List.getElem_mem hiL)
          rw [← lf_eq hiL, hf] at hfm
          obtain ⟨t, ht⟩ : ∃ t, M.toOf l f = t := ⟨_, rfl⟩
          have htl : t < l.length := by rw [← ht]; exact (M.toOf_spec HH.out.2.2.2 hfm.1).2.1
          obtain ⟨js, hjs⟩ : ∃ js, M.beh t (M.at0 l t) = js := ⟨_, rfl⟩
          have HN := hid (fun W h => rbehind_ly b o k cap t l HH.out.1 hn htl HH.out.2.1 W h js hjs)
          have HBq := hid (show bq l i i = ⟨f, t, []⟩ ∧ bq l (i + 1) i = ⟨f, t, js.map (M.numb l)⟩ ∧ ∀ j, j ≠ i → bq l (i + 1) j = bq l i j from
            ⟨by unfold bq; rw [if_neg (by omega), hf, ht], by unfold bq; rw [if_pos (by omega), hf]; unfold M.blk; rw [ht, hjs], fun j hj => by
              unfold bq
              by_cases e : j < i
              · rw [if_pos e, if_pos (by omega)]
              · rw [if_neg e, if_neg (by omega)]⟩)
          have HJ := hid (show ∀ y ∈ js, y < k ∧ M.lead l y = true from fun y hy => by
            rw [← hjs, ← ht] at hy
            have := M.blk_next HH.out.2.2.2 HH.out.2.1 hfm.1 hfm.2 hy
            rw [← HH.out.1]; exact ⟨this.1, this.2.1⟩)
          have hlen : js.length ≤ 2 := by rw [← hjs]; exact M.beh_len _ _
          have HBi := hid (by have := HQ.out.1 i hil; rw [HBq.out.1] at this; exact this : BkOk wr g wr.heap.size i ⟨f, t, []⟩)
          obtain ⟨c0, c1, c2, a3, cc3, _, _, _⟩ := HBi.out
          simp only at c0 c1
          clear hjs hf ht hfm htl
          obtain ⟨q0, hq0⟩ : ∃ q0, js.length = q0 := ⟨_, rfl⟩
          rw [hq0] at HN hlen
          have HQ0 := hid hq0
          clear hq0
          go_wp2_with fail
          refine (HN.out _ (HH.out.2.2.1.far HQ.out.2.2.1 hbl)).mono ?_
          rintro e w3 ⟨a, ca, rfl, hnx, hfr, hb⟩
          obtain ⟨B3, hB3⟩ : ∃ B3, w3.heap.size = B3 := ⟨_, rfl⟩
          have hgo : g < wr.heap.size := HQ.out.2.2.2.1
          have hgB : g < B3 := by rw [← hB3]; exact Nat.lt_of_lt_of_le hgo hb.size
          have hwmB : w1.heap.size < B3 := by rw [← hB3]; exact Nat.lt_of_lt_of_le HQ.out.2.1.lt hb.size
          have HGN := hid (show ∀ A, a = some A → A.block ≠ g ∧ A.block ≠ w1.heap.size from fun A hA => by have := hfr A hA; have := HQ.out.2.1.lt; omega)
          have HAB := hid (show js ≠ [] → ∀ A, a = some A → A.block < B3 from fun hne A hA => by
            rcases hnx with h | ⟨g', e, h, _⟩
            · exact absurd h hne
            · rw [e] at hA; injection hA with hA; subst hA; rw [← hB3]; exact h)
          have HI := hid (show w3.cell? ⟨g, i * 3, none⟩ = some (.int .i64 (f : Int)) ∧ w3.cell? ⟨g, i * 3 + 1, none⟩ = some (.int .i64 (t : Int)) ∧ w3.frozen? ⟨g, i * 3 + 2, none⟩ = false ∧ w3.cell? ⟨g, i * 3 + 2, none⟩ = some (.slice none 0 0) ∧ w3.ownsRow B3 3 1 (.slice none 0 0) 0 [] ∧ B3 ≤ w3.heap.size ∧ (∀ j, j < m → j ≠ i → BkOk w3 g B3 j (bq l i j)) ∧ (∀ j, i + 1 ≤ j → j < m → w3.cell? ⟨g, j * 3 + 2, none⟩ = some (.slice none 0 0)) ∧ Row w3 w1.heap.size k (fun j => .int .i64 ((numV l k j : Nat) : Int)) ∧ Below w.heap.size w w3 ∧ Nx w3 a js from
            ⟨(hb.cell (p := ⟨g, i * 3, none⟩) hgo).trans c0, (hb.cell (p := ⟨g, i * 3 + 1, none⟩) hgo).trans c1, froz_far hb hgo c2, (hb.cell (p := ⟨g, i * 3 + 2, none⟩) hgo).trans (HQ.out.2.2.2.2 i (Nat.le_refl _) hil), World.ownsRow_nil _ _ _ _, by omega, fun j hj _ => by
              obtain ⟨x1, x2, x3, ax, cx, x4, x5, x6⟩ := (HQ.out.1 j hj).far hb hgo (Nat.le_refl _)
              exact ⟨x1, x2, x3, ax, cx, x4, x5, fun A hA => ⟨by have := (x6 A hA).1; have := hb.size; omega, (x6 A hA).2⟩⟩, fun j h1 h2 => (hb.cell (p := ⟨g, j * 3 + 2, none⟩) hgo).trans (HQ.out.2.2.2.2 j (by omega) h2), HQ.out.2.1.below hb, (stp (hid HQ.out.2.2.1) hb).out, hnx⟩)
          clear hb hnx hfr HN HQ HBi c0 c1 c2 hB3 hgo
          go_wp2
          go_loopw [10] (fun qv wr => ∃ (q : Nat) (v : Value), q ≤ q0 ∧ qv = .int .i64 q ∧ Hid (wr.cell? ⟨g, i * 3, none⟩ = some (.int .i64 (f : Int)) ∧ wr.cell? ⟨g, i * 3 + 1, none⟩ = some (.int .i64 (t : Int)) ∧ wr.frozen? ⟨g, i * 3 + 2, none⟩ = false ∧ wr.cell? ⟨g, i * 3 + 2, none⟩ = some v ∧ wr.ownsRow B3 3 1 v q ((js.take q).map fun y => Value.int .i64 ((M.numb l y : Nat) : Int)) ∧ B3 ≤ wr.heap.size ∧ (∀ j, j < m → j ≠ i → BkOk wr g B3 j (bq l i j)) ∧ (∀ j, i + 1 ≤ j → j < m → wr.cell? ⟨g, j * 3 + 2, none⟩ = some (.slice none 0 0)) ∧ Row wr w1.heap.size k (fun j => .int .i64 ((numV l k j : Nat) : Int)) ∧ Below w.heap.size w wr ∧ Nx wr a js)) (fun qv _ => q0 - (intOf qv).toNat)
          case atStart => exact ⟨0, .slice none 0 0, Nat.zero_le _, rfl, HI.out⟩
          case round =>
            clear HI
            obtain ⟨q, v, hq, rfl, HP⟩ := hrel
            by_cases hq2 : q < q0
            · have i5 : (q : Int) < (q0 : Int) := by omega
              have hqj : q < js.length := by rw [HQ0.out]; exact hq2
              have hjne : js ≠ [] := fun h => by rw [h] at hqj; simp at hqj
              obtain ⟨g', rfl⟩ : ∃ g', a = some ⟨g', 0, none⟩ := by
                rcases HP.out.2.2.2.2.2.2.2.2.2.2 with h | ⟨g', e, _⟩
                · exact absurd h hjne
                · exact ⟨g', e⟩
              have cy := nx_get HP.out.2.2.2.2.2.2.2.2.2.2 q hqj
              obtain ⟨y, hy⟩ : ∃ y, js[q] = y := ⟨_, rfl⟩
              rw [hy] at cy
              obtain ⟨hyn, hyl⟩ := HJ.out y (by rw [← hy]; exact List.getElem_mem hqj)
              have i6 : (y : Int) < (k : Int) := by omega
              have cn := HP.out.2.2.2.2.2.2.2.2.1.cell y hyn
              have hnv : numV l k y = M.numb l y := by unfold numV; rw [if_pos ⟨hyn, hyl⟩]
              simp only [hnv] at cn
              obtain ⟨z, hz⟩ : ∃ z, M.numb l y = z := ⟨_, rfl⟩
              rw [hz] at cn
              have HT := hid (show (js.take (q + 1)).map (fun y => Value.int .i64 ((M.numb l y : Nat) : Int)) = (js.take q).map (fun y => Value.int .i64 ((M.numb l y : Nat) : Int)) ++ [.int .i64 (z : Int)] by
                rw [List.take_succ_eq_append_getElem hqj, List.map_append, hy, ← hz]; rfl)
              obtain ⟨a', c', hv, hab'⟩ := own_slice HP.out.2.2.2.2.1
              have cv := HP.out.2.2.2.1
              rw [hv] at cv HP
              have hABn := HAB.out hjne
              clear hv hy hyl hnv hz hjne hqj
              go_wp2
              have hC1 : ∀ (j : Nat) (u : Value), [Value.int .i64 (z : Int)][j]? = some u → (wr.drew.alloc (.cells #[.int .i64 (z : Int)] 3)).cell? ((⟨wr.heap.size, 0, none⟩ : Addr).add j) = some u :=
                World.news_of_block (fr := (0, 0)) (t := 3) (by have := heap_alloc_new wr.drew (Obj.cells #[.int .i64 (z : Int)] 3); simpa using this)
              have hC2 : ∀ u ∈ [Value.int .i64 (z : Int)], u.oneCell' = true := by intro u hu; simp at hu; rw [hu]; rfl
              have hC3 : q + 1 ≤ maxLen := by unfold maxLen; omega
              have hC4 : (q + 1) * 8 ≤ 140737488355328 := by omega
              have hC5 : B3 ≤ (wr.drew.alloc (.cells #[.int .i64 (z : Int)] 3)).heap.size := by have := HP.out.2.2.2.2.2.1; simp; omega
              have hC6 : (wr.drew.alloc (.cells #[.int .i64 (z : Int)] 3)).heap.size = wr.heap.size + 1 := by simp
              have HC := hid (And.intro hC1 (And.intro hC2 (And.intro hC3 (And.intro hC4 (And.intro hC5 hC6)))))
              have fz := HP.out.2.2.1
              have cvA : ∀ o : Obj, (wr.alloc o).cell? ⟨g, i * 3 + 2, none⟩ = some (.slice a' q c') := fun o => ((al wr o).cell (p := ⟨g, i * 3 + 2, none⟩) (Nat.lt_of_lt_of_le hgB HP.out.2.2.2.2.2.1)).trans cv
              clear hC1 hC2 hC3 hC4 hC5 hC6
              go_region_law (refine step_append_lies _ rfl _ _ 24 rfl B3 3 i0 (.int .i64 0) 1 8 Try.underlying24 hi hz0 hz1 hz2 rfl (by decide) _ q _ rfl (HP.out.2.2.2.2.1.drew.alloc _) ⟨wr.heap.size, 0, none⟩ 1 1 [.int .i64 (z : Int)] rfl rfl HC.out.1 HC.out.2.1 (by decide) HC.out.2.2.1 HC.out.2.2.2.1 HC.out.2.2.2.2.1 (wr.heap.size + 1) HC.out.2.2.2.2.2 ?_; intro g2 cap2 w5 hown hgrow _ _; have hb5 : Below B3 wr w5 := ((Below.refl B3 wr).drew.alloc (by simpa using HP.out.2.2.2.2.2.1) _).grown hgrow HC.out.2.2.2.2.1 (fun x hx => (HP.out.2.2.2.2.1.lt x hx).1); have d1 := (hb5.cell (p := ⟨g, i * 3 + 2, none⟩) hgB).trans cv; have d2 := froz_far hb5 hgB fz)
              all_goals
                have hown' : w5.ownsRow B3 3 1 (.slice (some ⟨g2, 0, none⟩) (q + 1) cap2) (q + 1) ((js.take (q + 1)).map fun y => Value.int .i64 ((M.numb l y : Nat) : Int)) := by
                  rw [HT.out]
                  first
                    | exact hown
                    | (rw [List.map_take]; exact hown)
                have hgb2 := hown'.lt g2 rfl
                have hne2 : g2 ≠ g := by have := hgb2.1; omega
                have HZ := hid (show (w5.setCell ⟨g, i * 3 + 2, none⟩ (.slice (some ⟨g2, 0, none⟩) (q + 1) cap2)).cell? ⟨g, i * 3, none⟩ = some (.int .i64 (f : Int)) ∧ (w5.setCell ⟨g, i * 3 + 2, none⟩ (.slice (some ⟨g2, 0, none⟩) (q + 1) cap2)).cell? ⟨g, i * 3 + 1, none⟩ = some (.int .i64 (t : Int)) ∧ (w5.setCell ⟨g, i * 3 + 2, none⟩ (.slice (some ⟨g2, 0, none⟩) (q + 1) cap2)).frozen? ⟨g, i * 3 + 2, none⟩ = false ∧ (w5.setCell ⟨g, i * 3 + 2, none⟩ (.slice (some ⟨g2, 0, none⟩) (q + 1) cap2)).cell? ⟨g, i * 3 + 2, none⟩ = some (.slice (some ⟨g2, 0, none⟩) (q + 1) cap2) ∧ (w5.setCell ⟨g, i * 3 + 2, none⟩ (.slice (some ⟨g2, 0, none⟩) (q + 1) cap2)).ownsRow B3 3 1 (.slice (some ⟨g2, 0, none⟩) (q + 1) cap2) (q + 1) ((js.take (q + 1)).map fun y => Value.int .i64 ((M.numb l y : Nat) : Int)) ∧ B3 ≤ (w5.setCell ⟨g, i * 3 + 2, none⟩ (.slice (some ⟨g2, 0, none⟩) (q + 1) cap2)).heap.size ∧ (∀ j, j < m → j ≠ i → BkOk (w5.setCell ⟨g, i * 3 + 2, none⟩ (.slice (some ⟨g2, 0, none⟩) (q + 1) cap2)) g B3 j (bq l i j)) ∧ (∀ j, i + 1 ≤ j → j < m → (w5.setCell ⟨g, i * 3 + 2, none⟩ (.slice (some ⟨g2, 0, none⟩) (q + 1) cap2)).cell? ⟨g, j * 3 + 2, none⟩ = some (.slice none 0 0)) ∧ Row (w5.setCell ⟨g, i * 3 + 2, none⟩ (.slice (some ⟨g2, 0, none⟩) (q + 1) cap2)) w1.heap.size k (fun j => .int .i64 ((numV l k j : Nat) : Int)) ∧ Below w.heap.size w (w5.setCell ⟨g, i * 3 + 2, none⟩ (.slice (some ⟨g2, 0, none⟩) (q + 1) cap2)) ∧ Nx (w5.setCell ⟨g, i * 3 + 2, none⟩ (.slice (some ⟨g2, 0, none⟩) (q + 1) cap2)) (some ⟨g', 0, none⟩) js from
                  ⟨by rw [World.cell?_setCell_other _ _ _ _ (by intro e; injection e with _ e; omega)]; exact (hb5.cell (p := ⟨g, i * 3, none⟩) hgB).trans HP.out.1,
                    by rw [World.cell?_setCell_other _ _ _ _ (by intro e; injection e with _ e; omega)]; exact (hb5.cell (p := ⟨g, i * 3 + 1, none⟩) hgB).trans HP.out.2.1,
                    by rw [World.frozen?_setCell]; exact d2, World.cell?_setCell_same _ _ _ d1, own_off hown' (fun A hA => by injection hA with hA; subst hA; exact hne2),
                    by have := HP.out.2.2.2.2.2.1; have := hb5.size; simp; omega,
                    fun j hj hji => ((HP.out.2.2.2.2.2.2.1 j hj hji).far hb5 hgB (Nat.le_refl _)).off (by omega) (by omega) (by omega),
                    fun j h1 h2 => by rw [World.cell?_setCell_other _ _ _ _ (by intro e; injection e with _ e; omega)]; exact (hb5.cell (p := ⟨g, j * 3 + 2, none⟩) hgB).trans (HP.out.2.2.2.2.2.2.2.1 j h1 h2),
                    (HP.out.2.2.2.2.2.2.2.2.1.far hb5 hwmB).other _ _ _ (by omega), (HP.out.2.2.2.2.2.2.2.2.2.1.trans (hb5.mono (by omega))).setCell (by simp; omega) _,
                    (HP.out.2.2.2.2.2.2.2.2.2.2.far hb5 hABn).off (fun A hA => (HGN.out A hA).1)⟩)
                clear hown hown' hgrow hb5 d1 d2 HP HC cv cvA fz cy cn HT hgb2
                go_wp2
                go_roundw
                case rel => exact ⟨q + 1, _, by omega, by go_num, HZ.out⟩
                case measure => simp [intOf]; omega
            · obtain rfl : q = q0 := by omega
              have HF := hid (show (∀ j, j < m → BkOk wr g wr.heap.size j (bq l (i + 1) j)) ∧ Row wr w1.heap.size k (fun j => .int .i64 ((numV l k j : Nat) : Int)) ∧ Below w.heap.size w wr ∧ g < wr.heap.size ∧ (∀ j, i + 1 ≤ j → j < m → wr.cell? ⟨g, j * 3 + 2, none⟩ = some (.slice none 0 0)) from
                ⟨fun j hj => by
                  have hgw2 : g < wr.heap.size := Nat.lt_of_lt_of_le hgB HP.out.2.2.2.2.2.1
                  by_cases e : j = i
                  · subst e
                    rw [HBq.out.2.1]
                    obtain ⟨a', c', hv, hab'⟩ := own_slice HP.out.2.2.2.2.1
                    have hown := HP.out.2.2.2.2.1
                    have hcv := HP.out.2.2.2.1
                    rw [hv] at hown hcv
                    have hl2 : (js.map (M.numb l)).length = q := by rw [List.length_map, HQ0.out]
                    refine ⟨HP.out.1, HP.out.2.1, HP.out.2.2.1, a', c', by simp only [hl2]; exact hcv, ?_, fun A hA => ⟨(hab' A hA).2, by have := (hab' A hA).1; omega⟩⟩
                    by_cases hq0 : q = 0
                    · left
                      have : js = [] := List.eq_nil_of_length_eq_zero (by rw [HQ0.out]; exact hq0)
                      simp [this]
                    · obtain ⟨g3, c3, hv3⟩ := own_form hown (by omega)
                      injection hv3 with h1 h2 h3
                      subst h1
                      refine .inr ⟨g3, rfl, (hab' _ rfl).2, fun x hx => ?_⟩
                      have hx' : x < js.length := by simpa using hx
                      rw [hown.cellAt x (by rw [hl2] at hx; omega), ← HQ0.out, List.take_length]
                      simp [hx']
                  · rw [HBq.out.2.2 j e]
                    exact (HP.out.2.2.2.2.2.2.1 j hj e).far (Below.refl wr.heap.size wr) hgw2 HP.out.2.2.2.2.2.1,
                  HP.out.2.2.2.2.2.2.2.2.1, HP.out.2.2.2.2.2.2.2.2.2.1, Nat.lt_of_lt_of_le hgB HP.out.2.2.2.2.2.1, HP.out.2.2.2.2.2.2.2.1⟩)
              clear HP
              go_wp2
              go_roundw
              case rel => exact ⟨i + 1, by omega, by go_num, HF.out⟩
              case measure => simp [intOf]; omega
        · obtain rfl : i = m := by omega
          have HF := hid (show ∀ j, j < i → BkOk wr g wr.heap.size j (M.blk l (lf l j)) from fun j hj => by
            have := HQ.out.1 j hj
            unfold bq at this
            rw [if_pos hj] at this
            exact this)
          go_wp2
          go_ret
          exact ⟨g, cc, by rw [HM2.out]; rfl, fun j hj => HF.out j (by rw [← HM2.out]; exact hj), HQ.out.2.2.2.1, HQ.out.2.2.1, by omega⟩
end Go.Proofs.Ythfneidbaiebhaa.B
