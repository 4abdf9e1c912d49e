/-
  The reference's Written, as a walk over the Go text.
-/
import Derived.Test.YtfmlefadifpocaaHP
namespace Go.Proofs.Ytfmlefadifpocaa.B
open Go.ChangeShapes Go.WideShapes Go.ChangeAt Go.RowKit
open Go.Sort hiding Below
set_option linter.unusedVariables false

set_option maxHeartbeats 1600000 in
set_option maxRecDepth 100000 in
theorem rwritten_nil (a : Option Addr) (n cap : Nat) (l : List M.I) (hln : l.length = n) (hn : n ≤ 65536) (ok : ∀ i ∈ l, M.okI i) (w : World) (hl : Lies w a l) (h : M.lnE n ≠ 0 ∨ (M.wa l).2 ≠ 0) :
    Calls Try.prog 57 #[.slice a n cap] w fun e w' => e = .returned (.slice none 0 0) ∧ Below w.heap.size w w' := by
  have hW := whole_any a n cap l hln hn ok w hl false (by rcases h with h | h <;> simp [h])
  clear h ok hl
  go_enter Try.func57, Try.ntmps57
  go_wp2_with fail
  refine hW.mono ?_
  clear hW
  rintro e w1 ⟨rfl, hb⟩
  have HB := hid hb
  clear hb
  go_wp2
  go_ret
  exact ⟨rfl, HB.out⟩

set_option maxHeartbeats 1600000 in
set_option maxRecDepth 100000 in
theorem rwritten_any (a : Option Addr) (n cap : Nat) (l : List M.I) (hln : l.length = n) (ok : ∀ i ∈ l, M.okI i) (w : World) (hl : Lies w a l) (h1 : M.lnE n = 0) (h2 : (M.wa l).2 = 0) :
    Calls Try.prog 57 #[.slice a n cap] w fun e w' => ∃ g, e = .returned (.slice (some ⟨g, 0, none⟩) n n) ∧ Row w' g n (fun j => .int .u16 ((M.wr l j : Nat) : Int)) ∧ Below w.heap.size w w' := by
  obtain ⟨h0, h4⟩ := M.lnE_ok h1
  obtain ⟨i0, hi, hz0, hz1, hz2⟩ := info_parts info34
  have hW := whole_any a n cap l hln (by omega) ok w hl true (by simp [h1, h2])
  obtain ⟨b, o, rfl, hly⟩ := hl.ly (by omega)
  have HC := hid (fun w hl v => without_any b o n cap l hln h0 (by omega) ok w hl v)
  have HH := hid (And.intro hln (And.intro ok hly))
  clear hln ok hl hly h1 h2
  go_enter Try.func57, Try.ntmps57
  go_wp2_with fail
  refine hW.mono ?_
  clear hW
  rintro e w1 ⟨rfl, hb⟩
  have HB := hid hb
  clear hb
  go_wp2_with (at_make; refine wpList_make_full _ rfl _ _ 65 rfl w1.heap.size 35 i0 (.int .u16 0) 1 Try.underlying65 hi hz0 hz1 .i64 .i64 n n n rfl rfl rfl rfl ?c1 ?c2 (Nat.le_refl _) ?_)
  case c1 => rw [hz2]; omega
  case c2 => unfold maxLen; omega
  intro wm hown hgrow
  have hbm : Below w1.heap.size w1 wm := (Below.refl _ _).grown hgrow (Nat.le_refl _) (by intro k hk; cases hk)
  have HM := hid (show Row wm w1.heap.size n (fun j => .int .u16 ((M.mkb (fun u => !M.bare l u j) 0 : Nat) : Int)) ∧ Below w1.heap.size w1 wm from ⟨Row.of_own hown (fun j hj => made_get (.int .u16 0) n j hj) (hown.lt _ rfl).2, hbm⟩)
  clear hown hgrow hbm
  go_wp2
  go_loopw [4] (fun i wr => ∃ v : Nat, v ≤ 16 ∧ i = .int .i64 v ∧ Hid (Row wr w1.heap.size n (fun j => .int .u16 ((M.mkb (fun u => !M.bare l u j) v : Nat) : Int)) ∧ Below w1.heap.size w1 wr)) (fun i _ => 16 - (intOf i).toNat)
  case atStart => exact ⟨0, Nat.zero_le _, rfl, HM.out⟩
  case round =>
    clear HM
    obtain ⟨v, hv, rfl, HR⟩ := hrel
    have HBw := hid (stp HB HR.out.2)
    by_cases hv2 : v < 16
    · have i2 : (v : Int) < 16 := by omega
      have HL := hid (HH.out.2.2.below HBw.out)
      go_wp2_with (go_at_call 66; refine (HC.out _ HL.out _).mono ?_; rintro e w3 ⟨g, rfl, hRb, hb, hg⟩)
      have HI := hid (show Row w3 w1.heap.size n (fun j => .int .u16 ((M.mkb (fun u => !M.bare l u j) (if j < 0 then v + 1 else v) : Nat) : Int)) ∧ Below w1.heap.size w1 w3 ∧ Row w3 g n (fun j => .bool (M.bare l v j)) from ⟨(HR.out.1.below hb).congr (fun j _ => by simp), (stp (hid HR.out.2) hb).out, hRb⟩)
      have hne : g ≠ w1.heap.size := by have := HR.out.1.lt; omega
      clear hRb hb hg HR HBw HL
      go_loopw [6] (fun i wr => ∃ q : Nat, q ≤ n ∧ i = .int .i64 q ∧ Hid (Row wr w1.heap.size n (fun j => .int .u16 ((M.mkb (fun u => !M.bare l u j) (if j < q then v + 1 else v) : Nat) : Int)) ∧ Below w1.heap.size w1 wr ∧ Row wr g n (fun j => .bool (M.bare l v j)))) (fun i _ => n - (intOf i).toNat)
      case atStart => exact ⟨0, Nat.zero_le _, rfl, HI.out⟩
      case round =>
        clear HI
        obtain ⟨q, hq, rfl, HJ⟩ := hrel
        by_cases hq2 : q < n
        · have i3 : (q : Int) < (n : Int) := by omega
          have cB := HJ.out.2.2.cell q hq2
          have cR := HJ.out.1.cell q hq2
          have fR := HJ.out.1.froz q hq2
          rw [if_neg (by omega)] at cR
          obtain ⟨y, hy⟩ : ∃ y, M.mkb (fun u => !M.bare l u q) v = y := ⟨_, rfl⟩
          rw [hy] at cR
          have hyl : y < 65536 := by rw [← hy]; exact Nat.lt_of_lt_of_le (M.mkb_lt _ v) (Nat.le_trans (Nat.pow_le_pow_right (by omega) hv) (by omega))
          rcases hz : M.bare l v q with _ | _
          · rw [hz] at cB
            obtain ⟨p2, hp2⟩ : ∃ p2 : Nat, 2 ^ v = p2 := ⟨_, rfl⟩
            have hpl : p2 < 65536 := by
              rw [← hp2]
              have : (2 : Nat) ^ v < 2 ^ 16 := Nat.pow_lt_pow_right (by omega) hv2
              omega
            have hwv : IntKind.u16.wrap (2 ^ v) = (p2 : Int) := by
              rw [IntKind.wrap_u16, show (2 : Int) ^ v = (p2 : Int) by rw [← hp2]; simp]
              omega
            obtain ⟨z, hzz⟩ : ∃ z : Nat, y ||| p2 = z := ⟨_, rfl⟩
            have hor : bits .or .u16 (y : Int) (p2 : Int) = (z : Int) := by
              rw [u16_or _ _ (by omega) (by omega) (by omega) (by omega), ← hzz]; simp
            have HY := hid (show M.mkb (fun u => !M.bare l u q) (v + 1) = z by rw [M.mkb, hy, hz, ← hzz, ← hp2]; simp)
            clear hy hp2 hzz
            go_wp2
            refine wp_region_still_tail 7 (by kernel_rfl) (by kernel_rfl) ?_
            change wpStill _ _ (World.drew wr) (fun a' => wpList _ _ _ _ a' (World.drew wr)) _ _
            simp only [List.take_succ_cons, List.take_zero, List.drop_succ_cons, List.drop_zero]
            repeat still_step
            refine wpStill_nil ?_
            go_wp2
            go_roundw
            case rel => exact ⟨q + 1, by omega, by go_num, ((HJ.out.1.drewN 1).set q hq2 _).congr (fun j hj => by
              by_cases e : j = q
              · subst e; rw [if_pos rfl, if_pos (by omega), HY.out]
              · rw [if_neg e]
                by_cases e2 : j < q
                · rw [if_pos e2, if_pos (by omega)]
                · rw [if_neg e2, if_neg (by omega)]), (HJ.out.2.1.drew).setCell (Nat.le_refl _) _, (HJ.out.2.2.drewN 1).other _ _ _ hne.symm⟩
            case measure => simp [intOf]; omega
          · rw [hz] at cB
            have HY := hid (show M.mkb (fun u => !M.bare l u q) (v + 1) = M.mkb (fun u => !M.bare l u q) v by rw [M.mkb, hz]; simp)
            clear hy
            go_wp2
            go_roundw
            case rel => exact ⟨q + 1, by omega, by go_num, HJ.out.1.congr (fun j hj => by
              by_cases e : j = q
              · subst e; rw [if_neg (by omega), if_pos (by omega), HY.out]
              · by_cases e2 : j < q
                · rw [if_pos e2, if_pos (by omega)]
                · rw [if_neg e2, if_neg (by omega)]), HJ.out.2⟩
            case measure => simp [intOf]; omega
        · obtain rfl : q = n := by omega
          go_wp2
          go_roundw
          case rel => exact ⟨v + 1, by omega, by go_num, HJ.out.1.congr (fun j hj => by rw [if_pos hj]), HJ.out.2.1⟩
          case measure => simp [intOf]; omega
    · obtain rfl : v = 16 := by omega
      go_wp2
      go_ret
      exact ⟨_, rfl, HR.out.1, HBw.out.out⟩
end Go.Proofs.Ytfmlefadifpocaa.B
