/-
  A map of places and numbers; the blocks that begin at some places: as walks over the Go text.
-/
import Derived.Test.YthfneidbaiebhaaG9
import Derived.Maps.Own
import Derived.Maps.OwnOps
import Derived.Maps.OwnSet
import Derived.Maps.Views
namespace Go.Proofs.Ythfneidbaiebhaa.B
open Go.ChangeShapes Go.WideShapes Go.ChangeAt Go.RowKit Go.Maps
open Go.Sort hiding Below
set_option linter.unusedVariables false

theorem lawi : Keyed Try.prog 3 := int_keyed Try.underlying3
theorem zeroi (w : World) : (zeroValue 3).run Try.prog w = .ok (.int .i64 0) w := by kernel_rfl
abbrev ki (y : Nat) : Lit := .int .i64 (y : Int)
theorem wf64 {x : Int} (h0 : 0 ≤ x) (h1 : x < 100000) : (Lit.int .i64 x).wf = true := by
  simp [Lit.wf, IntKind.min, IntKind.max, IntKind.bits, IntKind.signed]; omega
theorem keyi {y : Nat} (h : y < 100000) : keyOf Try.prog 3 (.int .i64 (y : Int)) = some (ki y) := keyOf_int_mk Try.underlying3 (wf64 (by omega) (by omega))
/-- the map that holds the numbers of the leaders among the first k places -/
def Mk (W : World) (mb k : Nat) (l : List M.I) : Prop := ∃ D : DataW Unit, W.ownsMap Try.prog 3 (plainElem Try.prog 3) mb k D ∧ ∀ y, y < k → M.lead l y = true → D.atKey (ki y) (.lit (.int .i64 0)) = .lit (.int .i64 ((M.numb l y : Nat) : Int))
theorem Mk.lt {W : World} {mb k : Nat} {l : List M.I} (h : Mk W mb k l) : mb < W.heap.size := by
  obtain ⟨D, h1, _⟩ := h; exact h1.lt
theorem Mk.far {W W' : World} {mb k B : Nat} {l : List M.I} (h : Mk W mb k l) (hb : Below B W W') (hB : mb < B) : Mk W' mb k l := by
  obtain ⟨D, ⟨es, clock, hbk, F, hs, hD⟩, h2⟩ := h
  exact ⟨D, ⟨es, clock, (hb.block mb hB).trans hbk, F, hs, hD⟩, h2⟩
theorem Mk.below {W W' : World} {mb k : Nat} {l : List M.I} (h : Mk W mb k l) (hb : Below W.heap.size W W') : Mk W' mb k l := h.far hb h.lt
theorem Mk.off {W : World} {mb k g j : Nat} {l : List M.I} {v : Value} (h : Mk W mb k l) (hne : mb ≠ g) : Mk (W.setCell ⟨g, j, none⟩ v) mb k l := by
  obtain ⟨D, h1, h2⟩ := h
  exact ⟨D, h1.setCell (by exact hne) v, h2⟩
theorem Mk.skip {W : World} {mb k : Nat} {l : List M.I} (h : Mk W mb k l) (hk : M.lead l k = false) : Mk W mb (k + 1) l := by
  obtain ⟨D, h1, h2⟩ := h
  refine ⟨D, h1.mono (Nat.le_succ _), fun y hy hl => ?_⟩
  by_cases e : y = k
  · subst e; rw [hk] at hl; cases hl
  · exact h2 y (by omega) hl
theorem Mk.grown {W W' : World} {mb k : Nat} {row : Option Nat} {l : List M.I} (h : Mk W mb k l) (hg : W.grownBy W' row) (hne : some mb ≠ row) : Mk W' mb k l := by
  obtain ⟨D, h1, h2⟩ := h
  exact ⟨D, h1.kept hg hne, h2⟩
theorem mk_made (W : World) (l : List M.I) : Mk (W.alloc (.map #[] 0)) W.heap.size 0 l :=
  ⟨.map [], World.ownsMap_made _ _ _ _, fun y hy => by omega⟩
theorem mk_put {W W' : World} {mb k : Nat} {l : List M.I} {D : DataW Unit} (h : W.ownsMap Try.prog 3 (plainElem Try.prog 3) mb k D) (hD : ∀ y, y < k → M.lead l y = true → D.atKey (ki y) (.lit (.int .i64 0)) = .lit (.int .i64 ((M.numb l y : Nat) : Int)))
    (h' : W'.ownsMap Try.prog 3 (plainElem Try.prog 3) mb (k + 1) (D.put (ki k) (.lit (.int .i64 ((M.numb l k : Nat) : Int))))) : Mk W' mb (k + 1) l := by
  refine ⟨_, h', fun y hy hl => ?_⟩
  by_cases e : y = k
  · subst e; exact atKey_put_same h.isMap (by exact trivial) _ _
  · rw [atKey_put_other (by intro e2; injection e2 with _ e2; omega)]
    exact hD y (by omega) hl
theorem Row.grown {W W' : World} {g n : Nat} {V : Nat → Value} {row : Option Nat} (h : Row W g n V) (hg : W.grownBy W' row) (hne : some g ≠ row) : Row W' g n V := by
  have e := hg.block g h.lt hne
  refine ⟨Nat.lt_of_lt_of_le h.lt hg.size, fun j hj => ?_, fun j hj => ?_⟩
  · have := h.cell j hj
    unfold World.cell? at *
    simp only at *
    rw [e]; exact this
  · have := h.froz j hj
    unfold World.frozen? at *
    simp only at *
    rw [e]; exact this
theorem own_grown {W W' : World} {base : Nat} {e : TypeId} {size : Nat} {a : Option Addr} {c0 n : Nat} {xs : List Value} {row : Option Nat} (h : W.ownsRow base e size (.slice a n c0) n xs) (hg : W.grownBy W' row) (hne : ∀ A, a = some A → some A.block ≠ row) : W'.ownsRow base e size (.slice a n c0) n xs := by
  refine ⟨h.1, ?_⟩
  rcases h.2 with h1 | ⟨g, c, cur, h1, h2, h3, h4⟩
  · exact .inl h1
  · have hg' : some g ≠ row := by
      injection h1 with h1
      exact hne _ h1
    exact .inr ⟨g, c, cur, h1, h2, by rw [hg.block g (h.lt g (by rw [h1]; rfl)).2 hg']; exact h3, h4⟩
theorem BkOk.next {W W' : World} {g j : Nat} {b : M.Bk} (h : BkOk W g W.heap.size j b) (hb : Below W.heap.size W W') (hg : g < W.heap.size) : BkOk W' g W'.heap.size j b := by
  obtain ⟨x1, x2, x3, ax, cx, x4, x5, x6⟩ := h.far hb hg (Nat.le_refl _)
  exact ⟨x1, x2, x3, ax, cx, x4, x5, fun A hA => ⟨Nat.lt_of_lt_of_le (x6 A hA).1 hb.size, (x6 A hA).2⟩⟩

set_option maxHeartbeats 3200000 in
set_option maxRecDepth 1000000 in
theorem numbers_any (mb k : Nat) (l : List M.I) (a : Option Addr) (m c : Nat) (js : List Nat) (hm : js.length = m) (hm2 : m ≤ 2) (hk : k ≤ 4096) (hJ : ∀ y ∈ js, y < k ∧ M.lead l y = true) (w : World) (hM : Mk w mb k l) (hN : Nx w a js) :
    Calls Try.prog 36 #[.map (some mb), .slice a m c] w fun e w' => ∃ a' c', e = .returned (.slice a' m c') ∧ Nx w' a' (js.map (M.numb l)) ∧ (∀ A, a' = some A → w.heap.size ≤ A.block ∧ A.block < w'.heap.size) ∧ Below w.heap.size w w' := by
  obtain ⟨i0, hi, hz0, hz1, hz2⟩ := info_parts infoi
  have HH := hid (And.intro hm (And.intro hJ (And.intro hM hN)))
  have HI := hid (And.intro (World.ownsRow_nil w w.heap.size 3 1) (Below.refl w.heap.size w))
  clear hm hJ hM hN
  go_enter Try.func36, Try.ntmps36
  go_wp2
  go_loopw [5, 10] (fun v i wr => ∃ q : Nat, q ≤ m ∧ i = .int .i64 q ∧ Hid (wr.ownsRow w.heap.size 3 1 v q ((js.take q).map fun y => Value.int .i64 ((M.numb l y : Nat) : Int)) ∧ Below w.heap.size w wr)) (fun _ i _ => m - (intOf i).toNat)
  case atStart => exact ⟨0, Nat.zero_le _, rfl, HI.out⟩
  case round =>
    clear HI
    obtain ⟨q, hq, rfl, HP⟩ := hrel
    by_cases hq2 : q < m
    · have i5 : (q : Int) < (m : Int) := by omega
      have hqj : q < js.length := by rw [HH.out.1]; exact hq2
      have HN := hid (HH.out.2.2.2.below HP.out.2)
      obtain ⟨g', rfl⟩ : ∃ g', a = some ⟨g', 0, none⟩ := by
        rcases HN.out with h | ⟨g', e, _⟩
        · rw [h] at hqj; simp at hqj
        · exact ⟨g', e⟩
      have cy := nx_get HN.out q hqj
      obtain ⟨y, hy⟩ : ∃ y, js[q] = y := ⟨_, rfl⟩
      rw [hy] at cy
      obtain ⟨hyn, hyl⟩ := HH.out.2.1 y (by rw [← hy]; exact List.getElem_mem hqj)
      obtain ⟨D, hown, hD⟩ := HH.out.2.2.1.below HP.out.2
      have hat0 := hD y hyn hyl
      obtain ⟨z, hz⟩ : ∃ z, M.numb l y = z := ⟨_, rfl⟩
      have hzb : z ≤ 4096 := by rw [← hz]; have := numb_le l y; omega
      rw [hz] at hat0
      have HT := hid (show (js.take (q + 1)).map (fun y => Value.int .i64 ((M.numb l y : Nat) : Int)) = (js.take q).map (fun y => Value.int .i64 ((M.numb l y : Nat) : Int)) ++ [.int .i64 (z : Int)] by
        rw [List.take_succ_eq_append_getElem hqj, List.map_append, hy, ← hz]; rfl)
      obtain ⟨a', c', hv, hab'⟩ := own_slice HP.out.1
      rw [hv] at HP ⊢
      have hkey := keyi (y := y) (by omega)
      have HD := hid (And.intro hown hat0)
      clear hv hy hyl hz hD hown hat0 hqj HN
      go_wp2_with (at_lookup; refine wpList_lookup_own_int _ rfl _ _ 59 rfl 3 3 .i64 lawi Try.underlying59 Try.underlying3 (zeroi _) mb k D rfl HD.out.1 _ _ rfl hkey ?_)
      intro cc hat hwc
      obtain rfl : cc = (z : Int) := by
        rw [HD.out.2] at hat
        injection hat with hat
        injection hat with _ hat
        exact hat.symm
      clear hat hwc HD hkey cy
      go_wp2_with (at_builtin; refine wpList_append_lies _ rfl _ _ 24 rfl w.heap.size 3 i0 (.int .i64 0) 1 8 Try.underlying24 hi hz0 hz1 hz2 rfl (by decide) _ q _ rfl (HP.out.1.alloc _) ⟨wr.heap.size, 0, none⟩ 1 1 [.int .i64 (z : Int)] rfl rfl ?c1 ?c2 (by decide) ?c3 ?c4 ?c5 (wr.heap.size + 1) ?c6 ?_)
      case c1 => exact World.news_of_block (fr := (0, 0)) (t := 3) (by have := heap_alloc_new wr (Obj.cells #[.int .i64 (z : Int)] 3); simpa using this)
      case c2 => intro u hu; simp at hu; rw [hu]; rfl
      case c3 => unfold maxLen; omega
      case c4 => omega
      case c5 => have := HP.out.2.size; simp; omega
      case c6 => simp
      intro g2 cap2 w5 hown hgrow _ _
      have hb5 : Below w.heap.size w w5 := (HP.out.2.alloc HP.out.2.size _).grown hgrow (by have := HP.out.2.size; simp; omega) (fun x hx => (HP.out.1.lt x hx).1)
      have HZ := hid (show w5.ownsRow w.heap.size 3 1 (.slice (some ⟨g2, 0, none⟩) (q + 1) cap2) (q + 1) ((js.take (q + 1)).map fun y => Value.int .i64 ((M.numb l y : Nat) : Int)) ∧ Below w.heap.size w w5 from ⟨by
        rw [HT.out]
        first
          | exact hown
          | (rw [List.map_take]; exact hown), hb5⟩)
      clear hown hgrow hb5 HP HT
      go_wp2
      go_roundw
      case rel => exact ⟨q + 1, by omega, by go_num, HZ.out⟩
      case measure => simp [intOf]; omega
    · obtain rfl : q = m := by omega
      obtain ⟨a', c', hv, hab'⟩ := own_slice HP.out.1
      rw [hv] at HP ⊢
      have HF := hid (show Nx wr a' (js.map (M.numb l)) ∧ (∀ A, a' = some A → w.heap.size ≤ A.block ∧ A.block < wr.heap.size) from ⟨by
        by_cases hq0 : q = 0
        · left
          have : js = [] := List.eq_nil_of_length_eq_zero (by rw [HH.out.1]; exact hq0)
          simp [this]
        · have hown := HP.out.1
          obtain ⟨g3, c3, hv3⟩ := own_form hown (by omega)
          injection hv3 with h1 h2 h3
          subst h1
          refine .inr ⟨g3, rfl, (hab' _ rfl).2, fun x hx => ?_⟩
          have hx' : x < js.length := by simpa using hx
          rw [hown.cellAt x (by rw [HH.out.1] at hx'; omega), ← HH.out.1, List.take_length]
          simp [hx'], hab'⟩)
      clear hv hab'
      go_wp2
      go_ret
      exact ⟨a', c', rfl, HF.out.1, HF.out.2, HP.out.2⟩

set_option maxHeartbeats 1600000 in
set_option maxRecDepth 100000 in
theorem gblocks_bad (a : Option Addr) (n cap : Nat) (l : List M.I) (hln : l.length = n) (hn : n ≤ 65536) (ok : ∀ i ∈ l, M.okI i) (w : World) (hl : Lies w a l) (hb : M.rightB l = false) :
    Calls Try.prog 20 #[.slice a n cap] w fun e w' => e = .returned (.tuple #[.slice none 0 0, .int .i64 1]) ∧ Below w.heap.size w w' := by
  have HC := hid (right_any a n cap l hln (by omega) ok w hl false hb)
  clear hl ok hb
  go_enter Try.func20, Try.ntmps20
  go_wp2_with fail
  refine HC.out.mono ?_
  rintro e w1 ⟨rfl, hb⟩
  have HB := hid hb
  clear hb HC
  go_wp2
  go_ret2
  exact ⟨rfl, HB.out⟩
end Go.Proofs.Ythfneidbaiebhaa.B
