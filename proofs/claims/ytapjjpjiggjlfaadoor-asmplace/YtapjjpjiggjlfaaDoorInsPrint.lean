/-
  The bytes of a program, as walks over the Go text: instr.Print and the reference's.
-/
import Derived.Test.YtapjjpjiggjlfaaDoorInsSame
namespace Go.Proofs.YtapjjpjiggjlfaaDoor.B
open Go.ChangeShapes Go.WideShapes Go.ChangeAt Go.RowKit
set_option linter.unusedVariables false

theorem print_none (a : Option Addr) (cap : Nat) (w : World) :
    Calls Tryd.prog 35 #[.slice a 0 cap] w fun e w' => e = .returned (.tuple #[.string { data := #[] }, .int .i64 4]) ∧ w' = w := by
  go_enter Tryd.func35, Tryd.ntmps35
  go_wp2
  go_ret2
  exact ⟨rfl, rfl⟩
theorem print_long (a : Option Addr) (n cap : Nat) (w : World) (h : 4096 < n) (h' : n ≤ 1000000000000000) :
    Calls Tryd.prog 35 #[.slice a n cap] w fun e w' => e = .returned (.tuple #[.string { data := #[] }, .int .i64 5]) ∧ w' = w := by
  have h1 : ((n : Int) == 0) = false := by simp; omega
  have h2 : (4096 : Int) < (n : Int) := by omega
  go_enter Tryd.func35, Tryd.ntmps35
  go_wp2
  go_ret2
  exact ⟨rfl, rfl⟩
theorem prt_succ {l : List M.I} {k : Nat} (h : k < l.length) : M.pr (l.take (k + 1)) = M.pr (l.take k) ++ M.by8 l[k] := by
  rw [List.take_succ_eq_append_getElem h, M.pr_snoc]
theorem u8s_append (a b : List Int) : u8s (a ++ b) = u8s a ++ u8s b := by simp [u8s]

theorem own_form {w : World} {base : Nat} {e : TypeId} {size : Nat} {v : Value} {n : Nat} {xs : List Value} (h : w.ownsRow base e size v n xs) (hn : 0 < n) : ∃ g cap, v = .slice (some ⟨g, 0, none⟩) n cap := by
  rcases h.2 with ⟨h', h0⟩ | ⟨g, cap, cur, h', _⟩
  · omega
  · exact ⟨g, cap, h'⟩

set_option maxHeartbeats 1600000 in
set_option maxRecDepth 1000000 in
theorem print_any (a : Option Addr) (l : List M.I) (ca : Nat) (w : World) (hl : Lies w a l) (ok : ∀ i ∈ l, M.okI i) (h0 : 0 < l.length) (h1 : l.length ≤ 4096) :
    Calls Tryd.prog 35 #[.slice a l.length ca] w fun e w' => e = .returned (.tuple #[.string (M.str (M.pr l)), .int .i64 0]) ∧ Below w.heap.size w w' := by
  rcases hl with hl | ⟨b, o, rfl, hb, hl⟩
  · rw [hl] at h0; simp at h0
  obtain ⟨cs, hcs, hmk⟩ := make8 (8 * l.length) (by omega)
  have hmk : ∀ W : World, (Instr.makeSlice 70 (.int .i64 0) (.int .i64 (8 * (l.length : Int)))).run Tryd.prog W = .ok (.slice (some ⟨W.heap.size, 0, none⟩) 0 (8 * l.length)) (W.alloc (.cells cs 5)) := hmk
  have e0 : ((l.length : Int) == 0) = false := beq_eq_false_iff_ne.2 (by omega)
  have HO : Hid (∀ i ∈ l, M.okI i) := ok
  have HL : Hid (∀ (j : Nat) (h : j < l.length), LiesAt w b o j l[j]) := hl
  have hz : w.heap.size + 1 = (w.alloc (.cells cs 5)).heap.size := by simp
  have hown0 : (w.alloc (.cells cs 5)).ownsRow w.heap.size 5 1 (.slice (some ⟨w.heap.size, 0, none⟩) 0 (8 * l.length)) 0 [] :=
    World.ownsRow_made (base := w.heap.size) (e := 5) (size := 1) w cs (8 * l.length) (Nat.le_refl _) (by unfold maxLen; omega) (by omega)
  have HW : Hid ((w.alloc (.cells cs 5)).ownsRow w.heap.size 5 1 (.slice (some ⟨w.heap.size, 0, none⟩) 0 (8 * l.length)) 0 []) := hown0
  clear ok hl hz hown0
  go_enter Tryd.func35, Tryd.ntmps35
  go_wp2
  go_loopw [4, 19] (fun v i wr => ∃ k : Nat, k ≤ l.length ∧ i = .int .i64 k ∧ wr.ownsRow w.heap.size 5 1 v (8 * k) (u8s (M.pr (l.take k))) ∧ Below w.heap.size w wr)
    (fun _ i _ => l.length - (intOf i).toNat)
  case atStart => exact ⟨0, Nat.zero_le _, rfl, HW.out, (Below.refl _ _).alloc (Nat.le_refl _) _⟩
  case round =>
    obtain ⟨k, hk, rfl, hown, hnx⟩ := hrel
    by_cases hlt : k < l.length
    · obtain ⟨p0, p1, p2, p3⟩ := HL.out k hlt
      have hok := HO.out l[k] (List.getElem_mem hlt)
      have q0 := (hnx.cell (p := ⟨b, o + k * 4, none⟩) hb).trans p0
      have q1 := (hnx.cell (p := ⟨b, o + k * 4 + 1, none⟩) hb).trans p1
      have q2 := (hnx.cell (p := ⟨b, o + k * 4 + 2, none⟩) hb).trans p2
      have q3 := (hnx.cell (p := ⟨b, o + k * 4 + 3, none⟩) hb).trans p3
      have HS : Hid (u8s (M.pr (l.take (k + 1))) = u8s (M.pr (l.take k)) ++ u8s (M.by8 l[k])) := by
        show _ = _
        rw [prt_succ hlt, u8s_append]
      clear HL HO HW p0 p1 p2 p3
      generalize l[k] = x at *
      obtain ⟨c, t, f, kk⟩ := x
      simp only at q0 q1 q2 q3
      have i1 : (k : Int) < (l.length : Int) := by omega
      have hsz := hnx.size
      clear hcs hmk
      go_wp2_with fail
      refine (write_any c t f kk hok _ (8 * k) w.heap.size _ _ (hown.alloc _) (by simp; omega) (by omega)).mono ?_
      rintro e w' ⟨g, cap, rfl, hown1, hB⟩
      rw [← HS.out] at hown1
      have hown1 : w'.ownsRow w.heap.size 5 1 (.slice (some ⟨g, 0, none⟩) (8 * k + 8) cap) (8 * (k + 1)) (u8s (M.pr (l.take (k + 1)))) := hown1
      have hB1 : Below w.heap.size w w' := (hnx.alloc hsz _).trans hB
      have HH : Hid (w'.ownsRow w.heap.size 5 1 (.slice (some ⟨g, 0, none⟩) (8 * k + 8) cap) (8 * (k + 1)) (u8s (M.pr (l.take (k + 1)))) ∧ Below w.heap.size w w') := ⟨hown1, hB1⟩
      clear hown hown1 hB hB1 HS hnx q0 q1 q2 q3
      go_wp2
      go_roundw
      case rel => exact ⟨k + 1, by omega, by go_num, HH.out.1, HH.out.2⟩
      case measure => simp [intOf]; omega
    · obtain rfl : k = l.length := by omega
      rw [List.take_length] at hown
      obtain ⟨g, cap, hv⟩ := own_form hown (by omega)
      rw [hv] at hown ⊢
      have hcv := conv_own hown
      clear hown HL HO HW hmk
      go_wp2
      go_ret2
      exact ⟨rfl, hnx⟩

end Go.Proofs.YtapjjpjiggjlfaaDoor.B
