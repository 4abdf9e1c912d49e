/-
  A row of instructions that is written; the reference's End and where a side goes, as walks over the Go text.
-/
import Derived.Test.YtahaooghebmhnaaPruMath5
import Derived.Test.YtahaooghebmhnaaGC
namespace Go.Proofs.Ytahaooghebmhnaa.M
theorem strN_more (l : List I) (f m : Nat) : ∀ (n t : Nat), strN l f m (strN l f n t) = strN l f (n + m) t := by
  intro n
  induction n with
  | zero => intro t; rw [Nat.zero_add]; rfl
  | succ n ih =>
    intro t
    by_cases h : isJa (at0 l t) = true ∧ tgt l t ≤ f + 256
    · rw [strN_go h, ih, show n + 1 + m = (n + m) + 1 by omega, strN_go h]
    · rw [strN_no h, strN_no h, strN_no h]
theorem strt_go {l : List I} {f t : Nat} (h : isJa (at0 l t) = true ∧ tgt l t ≤ f + 256) : strt l f t = strt l f (tgt l t) := by
  have hl := ja_lt h.1
  have e1 : strt l f t = strN l f (l.length - 1) (tgt l t) := by
    unfold strt
    rw [show l.length = (l.length - 1) + 1 by omega, strN_go h, Nat.add_sub_cancel]
  have e2 : strt l f (tgt l t) = strN l f 1 (strt l f t) := by
    rw [e1, strN_more]
    unfold strt
    rw [show l.length - 1 + 1 = l.length by omega]
  rw [e2, strN_no (strt_stop l f t)]
theorem strt_no {l : List I} {f t : Nat} (h : ¬ (isJa (at0 l t) = true ∧ tgt l t ≤ f + 256)) : strt l f t = t := strN_no h _
end Go.Proofs.Ytahaooghebmhnaa.M
namespace Go.Proofs.Ytahaooghebmhnaa.B
open Go.ChangeShapes Go.WideShapes Go.ChangeAt Go.RowKit
open Go.Sort hiding Below
set_option linter.unusedVariables false

/-- a row of instructions in a block of its own, that may be written -/
structure Ro (W : World) (g n : Nat) (X : Nat → M.I) : Prop where
  lt : g < W.heap.size
  c0 : ∀ j, j < n → W.cell? ⟨g, j * 4, none⟩ = some (.int .u16 (X j).1)
  c1 : ∀ j, j < n → W.cell? ⟨g, j * 4 + 1, none⟩ = some (.int .u8 (X j).2.1)
  c2 : ∀ j, j < n → W.cell? ⟨g, j * 4 + 2, none⟩ = some (.int .u8 (X j).2.2.1)
  c3 : ∀ j, j < n → W.cell? ⟨g, j * 4 + 3, none⟩ = some (.int .u32 (X j).2.2.2)
  fz : ∀ k, W.frozen? ⟨g, k, none⟩ = false
theorem Ro.far {W W' : World} {g n B : Nat} {X : Nat → M.I} (h : Ro W g n X) (hb : Below B W W') (hg : g < B) : Ro W' g n X :=
  ⟨Nat.lt_of_lt_of_le h.lt hb.size, fun j hj => (hb.cell (p := ⟨g, j * 4, none⟩) hg).trans (h.c0 j hj), fun j hj => (hb.cell (p := ⟨g, j * 4 + 1, none⟩) hg).trans (h.c1 j hj), fun j hj => (hb.cell (p := ⟨g, j * 4 + 2, none⟩) hg).trans (h.c2 j hj), fun j hj => (hb.cell (p := ⟨g, j * 4 + 3, none⟩) hg).trans (h.c3 j hj), fun k => froz_far hb hg (h.fz k)⟩
theorem Ro.below {W W' : World} {g n : Nat} {X : Nat → M.I} (h : Ro W g n X) (hb : Below W.heap.size W W') : Ro W' g n X := h.far hb h.lt
theorem Ro.congr {W : World} {g n : Nat} {X Y : Nat → M.I} (h : Ro W g n X) (e : ∀ j, j < n → X j = Y j) : Ro W g n Y :=
  ⟨h.lt, fun j hj => by rw [← e j hj]; exact h.c0 j hj, fun j hj => by rw [← e j hj]; exact h.c1 j hj, fun j hj => by rw [← e j hj]; exact h.c2 j hj, fun j hj => by rw [← e j hj]; exact h.c3 j hj, h.fz⟩
theorem Ro.off {W : World} {g n b k : Nat} {X : Nat → M.I} {v : Value} (h : Ro W g n X) (hne : b ≠ g) : Ro (W.setCell ⟨b, k, none⟩ v) g n X :=
  ⟨by simpa using h.lt, fun j hj => by rw [World.cell?_setCell_far _ _ _ _ (by simpa using fun e => hne e)]; exact h.c0 j hj, fun j hj => by rw [World.cell?_setCell_far _ _ _ _ (by simpa using fun e => hne e)]; exact h.c1 j hj, fun j hj => by rw [World.cell?_setCell_far _ _ _ _ (by simpa using fun e => hne e)]; exact h.c2 j hj, fun j hj => by rw [World.cell?_setCell_far _ _ _ _ (by simpa using fun e => hne e)]; exact h.c3 j hj, fun k => by rw [World.frozen?_setCell]; exact h.fz k⟩
theorem Ro.ly {W : World} {g n : Nat} {X : Nat → M.I} {L : List M.I} (h : Ro W g n X) (hn : L.length = n) (e : ∀ j (hj : j < L.length), L[j] = X j) : Ly W g 0 L :=
  ⟨h.lt, fun j hj => by
    rw [e j hj]
    have hj' : j < n := by omega
    exact ⟨by rw [Nat.zero_add]; exact h.c0 j hj', by rw [Nat.zero_add]; exact h.c1 j hj', by rw [Nat.zero_add]; exact h.c2 j hj', by rw [Nat.zero_add]; exact h.c3 j hj'⟩⟩
theorem Ro.setK {W : World} {g n : Nat} {X : Nat → M.I} (h : Ro W g n X) (i : Nat) (hi : i < n) (v : Int) : Ro (W.setCell ⟨g, i * 4 + 3, none⟩ (.int .u32 v)) g n (fun j => if j = i then ((X i).1, (X i).2.1, (X i).2.2.1, v) else X j) := by
  refine ⟨by simpa using h.lt, fun j hj => ?_, fun j hj => ?_, fun j hj => ?_, fun j hj => ?_, fun k => by rw [World.frozen?_setCell]; exact h.fz k⟩
  · rw [World.cell?_setCell_other _ _ _ _ (by intro e; injection e with _ e; omega), h.c0 j hj]
    by_cases e : j = i
    · subst e; rw [if_pos rfl]
    · rw [if_neg e]
  · rw [World.cell?_setCell_other _ _ _ _ (by intro e; injection e with _ e; omega), h.c1 j hj]
    by_cases e : j = i
    · subst e; rw [if_pos rfl]
    · rw [if_neg e]
  · rw [World.cell?_setCell_other _ _ _ _ (by intro e; injection e with _ e; omega), h.c2 j hj]
    by_cases e : j = i
    · subst e; rw [if_pos rfl]
    · rw [if_neg e]
  · by_cases e : j = i
    · subst e; rw [if_pos rfl, World.cell?_setCell_same _ _ _ (h.c3 j hj)]
    · rw [if_neg e, World.cell?_setCell_other _ _ _ _ (by intro e2; injection e2 with _ e2; omega)]; exact h.c3 j hj
theorem Ro.setT {W : World} {g n : Nat} {X : Nat → M.I} (h : Ro W g n X) (i : Nat) (hi : i < n) (v : Int) : Ro (W.setCell ⟨g, i * 4 + 1, none⟩ (.int .u8 v)) g n (fun j => if j = i then ((X i).1, v, (X i).2.2.1, (X i).2.2.2) else X j) := by
  refine ⟨by simpa using h.lt, fun j hj => ?_, fun j hj => ?_, fun j hj => ?_, fun j hj => ?_, fun k => by rw [World.frozen?_setCell]; exact h.fz k⟩
  · rw [World.cell?_setCell_other _ _ _ _ (by intro e; injection e with _ e; omega), h.c0 j hj]
    by_cases e : j = i
    · subst e; rw [if_pos rfl]
    · rw [if_neg e]
  · by_cases e : j = i
    · subst e; rw [if_pos rfl, World.cell?_setCell_same _ _ _ (h.c1 j hj)]
    · rw [if_neg e, World.cell?_setCell_other _ _ _ _ (by intro e2; injection e2 with _ e2; omega)]; exact h.c1 j hj
  · rw [World.cell?_setCell_other _ _ _ _ (by intro e; injection e with _ e; omega), h.c2 j hj]
    by_cases e : j = i
    · subst e; rw [if_pos rfl]
    · rw [if_neg e]
  · rw [World.cell?_setCell_other _ _ _ _ (by intro e; injection e with _ e; omega), h.c3 j hj]
    by_cases e : j = i
    · subst e; rw [if_pos rfl]
    · rw [if_neg e]
theorem Ro.setF {W : World} {g n : Nat} {X : Nat → M.I} (h : Ro W g n X) (i : Nat) (hi : i < n) (v : Int) : Ro (W.setCell ⟨g, i * 4 + 2, none⟩ (.int .u8 v)) g n (fun j => if j = i then ((X i).1, (X i).2.1, v, (X i).2.2.2) else X j) := by
  refine ⟨by simpa using h.lt, fun j hj => ?_, fun j hj => ?_, fun j hj => ?_, fun j hj => ?_, fun k => by rw [World.frozen?_setCell]; exact h.fz k⟩
  · rw [World.cell?_setCell_other _ _ _ _ (by intro e; injection e with _ e; omega), h.c0 j hj]
    by_cases e : j = i
    · subst e; rw [if_pos rfl]
    · rw [if_neg e]
  · rw [World.cell?_setCell_other _ _ _ _ (by intro e; injection e with _ e; omega), h.c1 j hj]
    by_cases e : j = i
    · subst e; rw [if_pos rfl]
    · rw [if_neg e]
  · by_cases e : j = i
    · subst e; rw [if_pos rfl, World.cell?_setCell_same _ _ _ (h.c2 j hj)]
    · rw [if_neg e, World.cell?_setCell_other _ _ _ _ (by intro e2; injection e2 with _ e2; omega)]; exact h.c2 j hj
  · rw [World.cell?_setCell_other _ _ _ _ (by intro e; injection e with _ e; omega), h.c3 j hj]
    by_cases e : j = i
    · subst e; rw [if_pos rfl]
    · rw [if_neg e]

set_option maxHeartbeats 1600000 in
set_option maxRecDepth 100000 in
theorem rend_out (a : Option Addr) (n cap : Nat) (i : Int) (hi : i < 0 ∨ (n : Int) ≤ i) (w : World) :
    Calls Try.prog 16 #[.slice a n cap, .int .i64 i] w fun e w' => e = .returned (.int .i64 i) ∧ w' = w := by
  by_cases h : i < 0
  · have d : decide (i < 0) = true := decide_eq_true h
    go_enter Try.func16, Try.ntmps16
    go_wp2
    go_ret
    exact ⟨rfl, rfl⟩
  · have d : decide (i < 0) = false := decide_eq_false h
    have d2 : decide ((n : Int) ≤ i) = true := decide_eq_true (by omega)
    go_enter Try.func16, Try.ntmps16
    go_wp2
    go_ret
    exact ⟨rfl, rfl⟩
set_option maxHeartbeats 3200000 in
set_option maxRecDepth 100000 in
theorem rend_ly (b o n cap : Nat) (l : List M.I) (hln : l.length = n) (hn : n ≤ 4096) (ok : ∀ i ∈ l, M.okI i) (hr : M.right l) : ∀ (d p : Nat) (P : Int), P = p → n ≤ p + d → p < n → ∀ w, Ly w b o l →
    Calls Try.prog 16 #[.slice (some ⟨b, o, none⟩) n cap, .int .i64 P] w fun e w' => e = .returned (.int .i64 ((M.endOf l p : Nat) : Int)) ∧ Below w.heap.size w w' := by
  intro d
  induction d with
  | zero => intro p P _ h1 h2; omega
  | succ d ih =>
    intro p P hP hd hp w hl
    subst hP
    have hpl : p < l.length := by omega
    have i1 : (p : Int) < (n : Int) := by omega
    obtain ⟨x, hx⟩ : ∃ x, l[p] = x := ⟨_, rfl⟩
    have h0x : M.at0 l p = x := by rw [M.at0_eq hpl]; exact hx
    have hok : M.okI x := hx ▸ ok _ (List.getElem_mem hpl)
    have HQ := hid (fun W (hb : Below w.heap.size w W) => (by rw [← hx]; exact (hl.below hb).2 p hpl : LiesAt W b o p x))
    have HL := hid hl
    have HE := hid (show (M.isJa x = false → M.endOf l p = p) ∧ (M.isJa x = true → M.endOf l p = M.endOf l (p + 1 + x.2.2.2.toNat) ∧ p + 1 + x.2.2.2.toNat < n) from
      ⟨fun h => M.endOf_not (by rw [h0x]; exact h), fun h => by
        have h' : M.isJa (M.at0 l p) = true := by rw [h0x]; exact h
        have e : M.tgt l p = p + 1 + x.2.2.2.toNat := by unfold M.tgt; rw [h0x]
        exact ⟨by rw [M.endOf_ja h', e], by rw [← e, ← hln]; exact M.tgt_lt hr ok h'⟩⟩)
    have HI := hid ih
    clear ih hx h0x hl
    obtain ⟨c, t, f, k⟩ := x
    obtain ⟨b0, _, _, b3⟩ := hok
    simp only at b0 b3
    obtain ⟨k, rfl⟩ : ∃ k' : Nat, k = k' := ⟨k.toNat, by omega⟩
    simp only [Int.toNat_natCast] at HE
    obtain ⟨q0, q1, q2, q3⟩ := HQ.out w (Below.refl _ _)
    simp only at q0 q1 q2 q3
    have hbk := hid b0
    clear b0
    go_enter Try.func16, Try.ntmps16
    go_wp2_with fail
    refine (rkind_any _ hbk.out.1 hbk.out.2 _).mono ?_
    rintro e w1 ⟨rfl, hb⟩
    obtain ⟨r0, r1, r2, r3⟩ := HQ.out _ hb
    simp only at r0 r1 r2 r3
    have HB := hid hb
    clear hb q0 q1 q2 q3
    by_cases hk : M.kind c = 11
    · have d1 : (M.kind c != 11) = false := by simpa using hk
      obtain ⟨he, ht⟩ := HE.out.2 (M.isJa_iff.2 hk)
      have HE2 := hid he
      clear hk he
      go_wp2_with fail
      refine (HI.out (p + 1 + k) _ (by omega) (by omega) ht _ (HL.out.below HB.out)).mono ?_
      rintro e w2 ⟨rfl, hb⟩
      replace HB := stp HB hb
      clear hb
      go_wp2
      go_ret
      exact ⟨by rw [HE2.out]; rfl, HB.out⟩
    · have d1 : (M.kind c != 11) = true := by simpa using hk
      have HE2 := hid (HE.out.1 (M.isJa_not.2 hk))
      clear hk
      go_wp2
      go_ret
      exact ⟨by rw [HE2.out]; rfl, HB.out⟩

set_option maxHeartbeats 3200000 in
set_option maxRecDepth 100000 in
theorem rside_any (b o n cap f t0 : Nat) (T0 : Int) (hT : T0 = t0) (l : List M.I) (hln : l.length = n) (hn : n ≤ 4096) (ok : ∀ i ∈ l, M.okI i) (hr : M.right l) (ht0 : t0 < n) (hf : f < n) (tt : Nat) (htt : M.strt l f t0 = tt) (w : World) (hl : Ly w b o l) :
    Calls Try.prog 44 #[.slice (some ⟨b, o, none⟩) n cap, .int .i64 f, .int .i64 T0] w fun e w' => e = .returned (.int .i64 (tt : Int)) ∧ Below w.heap.size w w' := by
  subst hT
  have HH := hid (And.intro hln (And.intro ok (And.intro hl (And.intro hr htt))))
  have HB0 := hid (Below.refl w.heap.size w)
  clear hln ok hl hr htt
  go_enter Try.func44, Try.ntmps44
  go_wp2
  go_loopw [2] (fun i wr => ∃ t : Nat, t < n ∧ i = .int .i64 t ∧ Hid (M.strt l f t = tt ∧ Below w.heap.size w wr)) (fun i _ => n - (intOf i).toNat)
  case atStart => exact ⟨t0, ht0, rfl, HH.out.2.2.2.2, HB0.out⟩
  case round =>
    clear HB0
    obtain ⟨t, htn, rfl, HR⟩ := hrel
    have htl : t < l.length := by rw [HH.out.1]; exact htn
    have i1 : (t : Int) < (n : Int) := by omega
    obtain ⟨x, hx⟩ : ∃ x, l[t] = x := ⟨_, rfl⟩
    have h0x : M.at0 l t = x := by rw [M.at0_eq htl]; exact hx
    have hok : M.okI x := hx ▸ HH.out.2.1 _ (List.getElem_mem htl)
    have HQ := hid (fun W (hb : Below wr.heap.size wr W) => (by rw [← hx]; exact (HH.out.2.2.1.below (stp (hid HR.out.2) hb).out).2 t htl : LiesAt W b o t x))
    have HE := hid (show (¬ (M.isJa x = true ∧ t + 1 + x.2.2.2.toNat ≤ f + 256) → t = tt) ∧ (M.isJa x = true ∧ t + 1 + x.2.2.2.toNat ≤ f + 256 → M.strt l f (t + 1 + x.2.2.2.toNat) = tt ∧ t + 1 + x.2.2.2.toNat < n) from by
      have e : M.tgt l t = t + 1 + x.2.2.2.toNat := by unfold M.tgt; rw [h0x]
      refine ⟨fun h => ?_, fun h => ?_⟩
      · rw [← HR.out.1, M.strt_no (by rw [h0x, e]; exact h)]
      · have h' : M.isJa (M.at0 l t) = true ∧ M.tgt l t ≤ f + 256 := by rw [h0x, e]; exact h
        exact ⟨by rw [← e, ← M.strt_go h']; exact HR.out.1, by rw [← e, ← HH.out.1]; exact M.tgt_lt HH.out.2.2.2.1 HH.out.2.1 h'.1⟩)
    clear hx h0x htl
    obtain ⟨c, jt, jf, k⟩ := x
    obtain ⟨b0, _, _, b3⟩ := hok
    simp only at b0 b3
    obtain ⟨k, rfl⟩ : ∃ k' : Nat, k = k' := ⟨k.toNat, by omega⟩
    simp only [Int.toNat_natCast] at HE
    obtain ⟨q0, q1, q2, q3⟩ := HQ.out wr (Below.refl _ _)
    simp only at q0 q1 q2 q3
    have hbk := hid b0
    clear b0
    go_wp2_with fail
    refine (rkind_any _ hbk.out.1 hbk.out.2 _).mono ?_
    rintro e w1 ⟨rfl, hb⟩
    obtain ⟨r0, r1, r2, r3⟩ := HQ.out _ hb
    simp only at r0 r1 r2 r3
    have HB := stp (hid HR.out.2) hb
    clear hb q0 q1 q2 q3
    by_cases hk : M.kind c = 11
    · have d1 : (M.kind c == 11) = true := by simpa using hk
      by_cases hnear : t + 1 + k ≤ f + 256
      · have d2 : decide ((t : Int) + 1 + (k : Int) - (f : Int) - 1 ≤ 255) = true := decide_eq_true (by omega)
        obtain ⟨he, ht⟩ := HE.out.2 ⟨M.isJa_iff.2 hk, hnear⟩
        have HE2 := hid he
        clear hk he hnear
        go_wp2
        go_roundw
        case rel => exact ⟨t + 1 + k, ht, by go_num, HE2.out, HB.out⟩
        case measure => simp [intOf]; omega
      · have d2 : decide ((t : Int) + 1 + (k : Int) - (f : Int) - 1 ≤ 255) = false := decide_eq_false (by omega)
        obtain rfl := HE.out.1 (fun h => hnear h.2)
        clear hk hnear HE
        go_wp2
        go_ret
        exact ⟨rfl, HB.out⟩
    · have d1 : (M.kind c == 11) = false := by simpa using hk
      obtain rfl := HE.out.1 (fun h => hk (M.isJa_iff.1 h.1))
      clear hk HE
      go_wp2
      go_ret
      exact ⟨rfl, HB.out⟩
end Go.Proofs.Ytahaooghebmhnaa.B
