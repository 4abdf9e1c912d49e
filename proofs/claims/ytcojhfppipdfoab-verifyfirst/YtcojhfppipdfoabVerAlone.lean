/-
  The first place with whose instruction something is wrong alone, as a walk over the Go text.
-/
import Derived.Test.YtcojhfppipdfoabVerLocal
namespace Go.Proofs.Ytcojhfppipdfoab.M
def wa (l : List I) : Nat × Int := match firstOf l.length (wrong l) with
  | some i => (i, loc l.length i (l.getD i (0, 0, 0, 0)))
  | none => (0, 0)
theorem wrong_at {l : List I} {i : Nat} (h : i < l.length) : wrong l i = (loc l.length i l[i] != 0) := by
  unfold wrong
  rw [List.getElem?_eq_getElem h]
theorem wa_some {l : List I} {i : Nat} (h : i < l.length) (hz : loc l.length i l[i] ≠ 0) (ha : ∀ j, j < i → wrong l j = false) : wa l = (i, loc l.length i l[i]) := by
  unfold wa
  rw [first_some.2 ⟨h, by rw [wrong_at h]; simpa using hz, ha⟩]
  simp [List.getD_eq_getElem?_getD, List.getElem?_eq_getElem h]
theorem wa_none {l : List I} (ha : ∀ j, j < l.length → wrong l j = false) : wa l = (0, 0) := by
  unfold wa
  rw [first_none.2 ha]
theorem wa_lt {l : List I} (h : 0 < l.length) : (wa l).1 < l.length := by
  unfold wa
  split
  · rename_i i e; exact (first_some.1 e).1
  · exact h
theorem wa_zero {l : List I} (h : (wa l).2 = 0) : ∀ j, j < l.length → wrong l j = false := by
  unfold wa at h
  split at h
  · rename_i i e
    have := (first_some.1 e)
    rw [wrong_at this.1] at this
    simp only [List.getD_eq_getElem?_getD, List.getElem?_eq_getElem this.1, Option.getD_some] at h
    simp [h] at this
  · rename_i e; exact first_none.1 e
end Go.Proofs.Ytcojhfppipdfoab.M
namespace Go.Proofs.Ytcojhfppipdfoab.B
open Go.ChangeShapes Go.WideShapes Go.ChangeAt Go.RowKit
set_option linter.unusedVariables false

/-- the instructions of l lie at b, o, one behind the other -/
def Ly (w : World) (b o : Nat) (l : List M.I) : Prop := b < w.heap.size ∧ ∀ j (h : j < l.length), LiesAt w b o j l[j]
theorem Ly.far {w w' : World} {b o B : Nat} {l : List M.I} (h : Ly w b o l) (hb : Below B w w') (hB : b < B) : Ly w' b o l :=
  ⟨Nat.lt_of_lt_of_le h.1 hb.size, fun j hj => by
    obtain ⟨h0, h1, h2, h3⟩ := h.2 j hj
    exact ⟨(hb.cell hB).trans h0, (hb.cell hB).trans h1, (hb.cell hB).trans h2, (hb.cell hB).trans h3⟩⟩
theorem Ly.below {w w' : World} {b o : Nat} {l : List M.I} (h : Ly w b o l) (hb : Below w.heap.size w w') : Ly w' b o l := h.far hb h.1
theorem Ly.lies {w : World} {b o : Nat} {l : List M.I} (h : Ly w b o l) : Lies w (some ⟨b, o, none⟩) l := .inr ⟨b, o, rfl, h.1, h.2⟩
theorem local_ly (b o n cap j : Nat) (l : List M.I) (hln : l.length = n) (hn : n ≤ 65536) (hj : j < l.length) (ok : ∀ i ∈ l, M.okI i) (w : World) (hl : Ly w b o l) :
    Calls Try.prog 6 #[.slice (some ⟨b, o, none⟩) n cap, .int .i64 j] w fun e w' => e = .returned (.int .i64 (M.loc n j l[j])) ∧ Below w.heap.size w w' :=
  local_at b o n cap j l[j].1 l[j].2.1 l[j].2.2.1 l[j].2.2.2 hn (by omega) (ok _ (List.getElem_mem hj)) w (hl.2 j hj)

set_option maxHeartbeats 1600000 in
set_option maxRecDepth 100000 in
theorem wrongAlone_any (b o n cap : Nat) (l : List M.I) (hln : l.length = n) (hn : n ≤ 65536) (ok : ∀ i ∈ l, M.okI i) (w : World) (hl : Ly w b o l) (p : Nat) (e0 : Int) (hp : (M.wa l) = (p, e0)) :
    Calls Try.prog 13 #[.slice (some ⟨b, o, none⟩) n cap] w fun e w' => e = .returned (.tuple #[.int .i64 (p : Int), .int .i64 e0]) ∧ Below w.heap.size w w' := by
  have HH := hid (And.intro hln (And.intro ok (And.intro hl hp)))
  clear hln ok hl hp
  go_enter Try.func13, Try.ntmps13
  go_wp2
  go_loopw [8] (fun i wr => ∃ k : Nat, k ≤ n ∧ i = .int .i64 k ∧ Hid (Below w.heap.size w wr ∧ ∀ j, j < k → M.wrong l j = false)) (fun i _ => n - (intOf i).toNat)
  case atStart => exact ⟨0, Nat.zero_le _, rfl, Below.refl _ _, fun j hj => by omega⟩
  case round =>
    obtain ⟨k, hk, rfl, HR⟩ := hrel
    by_cases hlt : k < n
    · have i1 : (k : Int) < (n : Int) := by omega
      have hkl : k < l.length := by rw [HH.out.1]; exact hlt
      have HC := hid (fun w hl => local_ly b o n cap k l HH.out.1 hn hkl HH.out.2.1 w hl)
      obtain ⟨x, hx⟩ : ∃ x, M.loc n k l[k] = x := ⟨_, rfl⟩
      rw [hx] at HC
      have HX := hid hx
      have HK := hid hkl
      clear hx
      rcases hz : (x != 0) with _ | _
      · go_wp2_with (go_at_call 6; refine (HC.out _ (HH.out.2.2.1.below HR.out.1)).mono ?_; rintro e w1 ⟨rfl, hb⟩; have HB := stp (hid HR.out.1) hb; clear hb)
        go_roundw
        case rel => exact ⟨k + 1, by omega, by go_num, HB.out, fun j hj => by
          by_cases e : j = k
          · subst e
            rw [M.wrong_at HK.out]
            have h1 := HX.out
            rw [← HH.out.1] at h1
            rw [h1, hz]
          · exact HR.out.2 j (by omega)⟩
        case measure => simp [intOf]; omega
      · have HP : Hid (M.wa l = (k, x)) := by
          have h1 := HX.out
          rw [← HH.out.1] at h1
          have := M.wa_some HK.out (by rw [h1]; simpa using hz) HR.out.2
          rw [h1] at this
          exact this
        go_wp2_with (go_at_call 6; refine (HC.out _ (HH.out.2.2.1.below HR.out.1)).mono ?_; rintro e w1 ⟨rfl, hb⟩; have HB := stp (hid HR.out.1) hb; clear hb)
        go_ret2
        have := HP.out.symm.trans HH.out.2.2.2
        simp only [Prod.mk.injEq] at this
        exact ⟨by rw [← this.1, ← this.2]; rfl, HB.out⟩
    · obtain rfl : k = n := by omega
      have HP : Hid (M.wa l = (0, 0)) := M.wa_none fun j hj => HR.out.2 j (by rw [HH.out.1] at hj; exact hj)
      go_wp2
      go_ret2
      have := HP.out.symm.trans HH.out.2.2.2
      simp only [Prod.mk.injEq] at this
      exact ⟨by rw [← this.1, ← this.2]; rfl, HR.out.1⟩
end Go.Proofs.Ytcojhfppipdfoab.B
