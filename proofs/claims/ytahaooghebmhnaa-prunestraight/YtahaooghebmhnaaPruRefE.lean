/-
  The reference's Prune, End and Right of layer 9, as walks over the Go text.
-/
import Derived.Test.YtahaooghebmhnaaPruRefD
namespace Go.Proofs.Ytahaooghebmhnaa.B
open Go.ChangeShapes Go.WideShapes Go.ChangeAt Go.RowKit
open Go.Sort hiding Below
set_option linter.unusedVariables false

set_option maxHeartbeats 1600000 in
set_option maxRecDepth 100000 in
theorem rright9 (a : Option Addr) (n cap : Nat) (l : List M.I) (hln : l.length = n) (hn : n ≤ 4096) (ok : ∀ i ∈ l, M.okI i) (w : World) (hl : Lies w a l) (q : Bool) (hq : M.rightB l = q) :
    Calls Try.prog 11 #[.slice a n cap] w fun e w' => e = .returned (.bool q) ∧ Below w.heap.size w w' := by
  have HC := hid (rright8 a n cap l hln hn ok w hl q hq)
  clear hq hl ok hln
  go_enter Try.func11, Try.ntmps11
  go_wp2_with fail
  refine HC.out.mono ?_
  rintro e w1 ⟨rfl, hb⟩
  have HB := hid hb
  clear hb HC
  go_wp2
  go_ret
  exact ⟨rfl, HB.out⟩
theorem rendI (b o n cap : Nat) (l : List M.I) (hln : l.length = n) (hn : n ≤ 4096) (ok : ∀ i ∈ l, M.okI i) (hr : M.right l) (i : Int) (w : World) (hl : Ly w b o l) :
    Calls Try.prog 16 #[.slice (some ⟨b, o, none⟩) n cap, .int .i64 i] w fun e w' => e = .returned (.int .i64 (M.endI l i)) ∧ Below w.heap.size w w' := by
  by_cases ho : i < 0 ∨ (l.length : Int) ≤ i
  · rw [M.endI_out ho]
    exact (rend_out _ n cap i (by omega) w).mono fun e w' h => ⟨h.1, h.2 ▸ Below.refl _ _⟩
  · obtain ⟨p, rfl⟩ : ∃ p : Nat, i = p := ⟨i.toNat, by omega⟩
    have hpl : p < l.length := by omega
    rw [M.endI_at hpl]
    exact rend_ly b o n cap l hln hn ok hr n p p rfl (by omega) (by omega) w hl

set_option maxHeartbeats 3200000 in
set_option maxRecDepth 1000000 in
theorem rprune_any (b o n cap : Nat) (l : List M.I) (hln : l.length = n) (hn : n ≤ 4096) (ok : ∀ i ∈ l, M.okI i) (hr : M.right l) (w : World) (hl : Ly w b o l) :
    Calls Try.prog 15 #[.slice (some ⟨b, o, none⟩) n cap] w fun e w' => ∃ a c, e = .returned (.slice a (M.pruneL l).length c) ∧ Lies w' a (M.pruneL l) ∧ Below w.heap.size w w' := by
  have HI := hid (show Lies w (some ⟨b, o, none⟩) l ∧ l.length = n ∧ M.right l ∧ (∀ i ∈ l, M.okI i) ∧ M.prF (n + 2 - 0) l = M.pruneL l ∧ Below w.heap.size w w from ⟨hl.lies, hln, hr, ok, by unfold M.pruneL; rw [hln]; rfl, Below.refl _ _⟩)
  clear hln ok hl hr
  go_enter Try.func15, Try.ntmps15
  go_wp2
  go_loopw [0, 4] (fun lv iv wr => ∃ (i m : Nat) (L : List M.I) (a : Option Addr) (c : Nat), i ≤ n + 2 ∧ m ≤ n ∧ iv = .int .i64 i ∧ lv = .slice a m c ∧ Hid (Lies wr a L ∧ L.length = m ∧ M.right L ∧ (∀ i ∈ L, M.okI i) ∧ M.prF (n + 2 - i) L = M.pruneL l ∧ Below w.heap.size w wr)) (fun _ iv _ => (n + 2) - (intOf iv).toNat)
  case atStart => exact ⟨0, n, l, some ⟨b, o, none⟩, cap, by omega, Nat.le_refl _, rfl, rfl, HI.out⟩
  case round =>
    clear HI
    obtain ⟨i, m, L, a, c, hin, hmn, rfl, rfl, HR⟩ := hrel
    by_cases hlt : i < n + 2
    · have i2 : (i : Int) < (n : Int) + 2 := by omega
      obtain ⟨b', o', rfl, hly⟩ := HR.out.1.ly (by have := ((M.right_iff L).1 HR.out.2.2.1).1.1; omega)
      have HC := hid (rround_any b' o' m c L HR.out.2.1 (by omega) HR.out.2.2.2.1 HR.out.2.2.1 wr hly)
      have hrl := (M.round_len HR.out.2.2.1 HR.out.2.2.2.1).2
      obtain ⟨m', hm'⟩ : ∃ m', (M.roundL L).length = m' := ⟨_, rfl⟩
      rw [hm'] at HC hrl
      rw [HR.out.2.1] at hrl
      obtain ⟨eq, heq⟩ : ∃ eq, decide (M.roundL L = L) = eq := ⟨_, rfl⟩
      have HS := hid (fun a1 a2 c1 c2 (W : World) h1 h2 => rsame_len a1 a2 (M.roundL L) L m' m c1 c2 W hm' HR.out.2.1 h1 h2 (by omega) (by omega) eq heq)
      have HP := hid (show M.prF (n + 2 - i) L = if M.roundL L = L then M.roundL L else M.prF (n + 2 - (i + 1)) (M.roundL L) from by
        rw [show n + 2 - i = (n + 2 - (i + 1)) + 1 by omega]; rfl)
      have HE := hid heq
      have HM := hid hm'
      clear hm' heq hly
      go_wp2_with fail
      refine HC.out.mono ?_
      rintro e w1 ⟨a1, c1, rfl, hx, hb⟩
      have HX := hid (show Lies w1 a1 (M.roundL L) ∧ Lies w1 (some ⟨b', o', none⟩) L ∧ Below w.heap.size w w1 from ⟨hx, HR.out.1.below hb, (stp (hid HR.out.2.2.2.2.2) hb).out⟩)
      clear hx hb HC
      go_wp2_with fail
      refine (HS.out _ _ _ _ _ HX.out.1 HX.out.2.1).mono ?_
      rintro e w2 ⟨rfl, q, rfl⟩
      have HY := hid (show Lies (w1.drewN q) a1 (M.roundL L) ∧ Below w.heap.size w (w1.drewN q) from ⟨HX.out.1.below (bdrew (Below.refl _ _) q), bdrew HX.out.2.2 q⟩)
      obtain ⟨w3, hw3⟩ : ∃ w3, w1.drewN q = w3 := ⟨_, rfl⟩
      rw [hw3] at HY ⊢
      clear hw3 HX HS
      cases eq with
      | true =>
        have HF := hid (show M.pruneL l = M.roundL L from by rw [← HR.out.2.2.2.2.1, HP.out, if_pos (of_decide_eq_true HE.out)])
        go_wp2
        go_ret
        exact ⟨a1, c1, by rw [HF.out, HM.out]; rfl, by rw [HF.out]; exact HY.out.1, HY.out.2⟩
      | false =>
        have HF := hid (show M.prF (n + 2 - (i + 1)) (M.roundL L) = M.pruneL l from by rw [← HR.out.2.2.2.2.1, HP.out, if_neg (of_decide_eq_false HE.out)])
        have HG := hid (And.intro (M.round_right HR.out.2.2.1 HR.out.2.2.2.1) (M.rnd_ok HR.out.2.2.1 HR.out.2.2.2.1))
        clear HR HP HE
        go_wp2
        go_roundw
        case rel => exact ⟨i + 1, m', M.roundL L, a1, c1, by omega, by omega, by go_num, rfl, HY.out.1, HM.out, HG.out.1, HG.out.2, HF.out, HY.out.2⟩
        case measure => simp [intOf]; omega
    · obtain rfl : i = n + 2 := by omega
      have HF := hid (show M.pruneL l = L from by
        have := HR.out.2.2.2.2.1
        rw [Nat.sub_self] at this
        exact this.symm)
      go_wp2
      go_ret
      exact ⟨a, c, by rw [HF.out, HR.out.2.1]; rfl, by rw [HF.out]; exact HR.out.1, HR.out.2.2.2.2.2⟩
end Go.Proofs.Ytahaooghebmhnaa.B
