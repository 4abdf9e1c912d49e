/-
  The program's isJa, target, along and End, as walks over the Go text.
-/
import Derived.Test.YtfmlefadifpocaaJR
import Derived.Lib.QuietBelow
import Derived.Deep.QuietTactic
import Derived.BigQuiet
namespace Go.Proofs.Ytfmlefadifpocaa.B
open Go.ChangeShapes Go.WideShapes Go.ChangeAt Go.RowKit
open Go.Sort hiding Below
set_option linter.unusedVariables false

set_option maxHeartbeats 1600000 in
set_option maxRecDepth 100000 in
theorem cisja (c t f k : Int) (j : Bool) (hj : M.isJa (c, t, f, k) = j) (w : World) :
    Calls Try.prog 48 #[.agg #[.int .u16 c, .int .u8 t, .int .u8 f, .int .u32 k]] w fun e w' => e = .returned (.bool j) ∧ Below w.heap.size w w' := by
  have HJ := hid (show (M.kind c == 11) = j from hj)
  have HB := hid (al w (.cells #[.int .u16 c, .int .u8 t, .int .u8 f, .int .u32 k] 38))
  clear hj
  go_enter Try.func48, Try.ntmps48
  go_wp2_with fail
  refine (kind_any _ _).mono ?_
  rintro e w1 ⟨rfl, rfl⟩
  go_wp2
  go_ret
  exact ⟨by rw [HJ.out]; rfl, HB.out⟩

set_option maxHeartbeats 1600000 in
set_option maxRecDepth 100000 in
theorem ctarget (b o n cap p : Nat) (hn : n ≤ 4096) (hp : p < n) (c t f : Int) (k : Nat) (hk : (k : Int) < 4294967296) (w : World) (hl : LiesAt w b o p (c, t, f, (k : Int))) :
    Calls Try.prog 49 #[.slice (some ⟨b, o, none⟩) n cap, .int .i64 p] w fun e w' => e = .returned (.int .i64 ((p + 1 + k : Nat) : Int)) ∧ w' = w := by
  have i1 : (p : Int) < (n : Int) := by omega
  obtain ⟨q0, q1, q2, q3⟩ := hl
  simp only at q0 q1 q2 q3
  go_enter Try.func49, Try.ntmps49
  go_wp2
  go_ret
  exact ⟨rfl, rfl⟩

set_option maxHeartbeats 3200000 in
set_option maxRecDepth 100000 in
theorem calong (b o n cap t0 tt : Nat) (lim T0 : Int) (hT : T0 = t0) (l : List M.I) (hln : l.length = n) (hn : n ≤ 4096) (ok : ∀ i ∈ l, M.okI i) (G : Nat → Nat)
    (hG : ∀ t, t < n → (M.isJa (M.at0 l t) = true → ((M.tgt l t : Nat) : Int) ≤ lim → G t = G (M.tgt l t) ∧ M.tgt l t < n) ∧ ((M.isJa (M.at0 l t) = true → lim < ((M.tgt l t : Nat) : Int)) → G t = t))
    (ht0 : t0 < n) (htt : G t0 = tt) (w : World) (hl : Ly w b o l) :
    Calls Try.prog 46 #[.slice (some ⟨b, o, none⟩) n cap, .int .i64 T0, .int .i64 lim] w fun e w' => e = .returned (.int .i64 (tt : Int)) ∧ Below w.heap.size w w' := by
  subst hT
  have HH := hid (And.intro hln (And.intro ok (And.intro hl (And.intro hG htt))))
  have HB0 := hid (Below.refl w.heap.size w)
  clear hln ok hl hG htt
  go_enter Try.func46, Try.ntmps46
  go_wp2
  go_loopw [1] (fun i wr => ∃ t : Nat, t < n ∧ i = .int .i64 t ∧ Hid (G t = tt ∧ Below w.heap.size w wr)) (fun i _ => n - (intOf i).toNat)
  case atStart => exact ⟨t0, ht0, rfl, HH.out.2.2.2.2, HB0.out⟩
  case round =>
    clear HB0
    obtain ⟨t, htn, rfl, HR⟩ := hrel
    have htl : t < l.length := by rw [HH.out.1]; exact htn
    have i1 : (t : Int) < (n : Int) := by omega
    obtain ⟨x, hx⟩ : ∃ x, l[t] = x := ⟨_, rfl⟩
    have h0x : M.at0 l t = x := by rw [M.at0_eq htl]; exact hx
    have hok : M.okI x := hx ▸ HH.out.2.1 _ (List.getElem_mem htl)
    have HQ := hid (fun W (hb : Below wr.heap.size wr W) => (by rw [← hx]; exact (HH.out.2.2.1.below (stp (hid HR.out.2) hb).out).2 t htl : LiesAt W b o t x))
    have HE := hid (HH.out.2.2.2.1 t htn)
    have e : M.tgt l t = t + 1 + x.2.2.2.toNat := by unfold M.tgt; rw [h0x]
    rw [h0x, e] at HE
    clear hx h0x htl e
    obtain ⟨c, jt, jf, k⟩ := x
    obtain ⟨_, _, _, b3⟩ := hok
    simp only at b3
    obtain ⟨k, rfl⟩ : ∃ k' : Nat, k = k' := ⟨k.toNat, by omega⟩
    simp only [Int.toNat_natCast] at HE
    obtain ⟨q0, q1, q2, q3⟩ := HQ.out wr (Below.refl _ _)
    simp only at q0 q1 q2 q3
    cases hj : M.isJa (c, jt, jf, (k : Int)) with
    | false =>
      have HJ := hid (cisja c jt jf k false hj)
      have HF := hid (show t = tt from by rw [← HR.out.1]; exact (HE.out.2 (fun h => by rw [hj] at h; cases h)).symm)
      clear hj HE
      go_wp2_with fail
      refine (HJ.out _).mono ?_
      rintro e w1 ⟨rfl, hb⟩
      have HB := stp (hid HR.out.2) hb
      clear hb q0 q1 q2 q3 HQ HR
      go_wp2
      go_ret
      exact ⟨by rw [HF.out]; rfl, HB.out⟩
    | true =>
      have HJ := hid (cisja c jt jf k true hj)
      have HT := hid (fun W (h : LiesAt W b o t (c, jt, jf, (k : Int))) => ctarget b o n cap t hn htn c jt jf k b3.2 W h)
      obtain ⟨m, hm⟩ : ∃ m, t + 1 + k = m := ⟨_, rfl⟩
      rw [hm] at HE HT
      have hmt : t < m := by omega
      have hm2 : m ≤ 4294971394 := by omega
      by_cases hlim : (m : Int) ≤ lim
      · have d2 : decide ((m : Int) ≤ lim) = true := decide_eq_true hlim
        obtain ⟨he, htm⟩ := HE.out.1 hj hlim
        have HE2 := hid (he.symm.trans HR.out.1)
        clear hj he HE hlim hm b3
        go_wp2_with fail
        refine (HJ.out _).mono ?_
        rintro e w1 ⟨rfl, hb⟩
        have HB := stp (hid HR.out.2) hb
        have HL := hid (HQ.out _ hb)
        clear hb q0 q1 q2 q3 HQ HR
        go_wp2_with fail
        refine (HT.out _ HL.out).mono ?_
        rintro e w2 ⟨rfl, rfl⟩
        go_wp2_with fail
        refine (HT.out _ HL.out).mono ?_
        rintro e w2 ⟨rfl, rfl⟩
        go_wp2
        go_roundw
        case rel => exact ⟨m, htm, rfl, HE2.out, HB.out⟩
        case measure => simp [intOf]; omega
      · have d2 : decide ((m : Int) ≤ lim) = false := decide_eq_false hlim
        have HF := hid (show t = tt from by rw [← HR.out.1]; exact (HE.out.2 (fun _ => by omega)).symm)
        clear hj HE hlim hm b3
        go_wp2_with fail
        refine (HJ.out _).mono ?_
        rintro e w1 ⟨rfl, hb⟩
        have HB := stp (hid HR.out.2) hb
        have HL := hid (HQ.out _ hb)
        clear hb q0 q1 q2 q3 HQ HR
        go_wp2_with fail
        refine (HT.out _ HL.out).mono ?_
        rintro e w2 ⟨rfl, rfl⟩
        go_wp2
        go_ret
        exact ⟨by rw [HF.out]; rfl, HB.out⟩

theorem along_end (b o n cap t : Nat) (T0 : Int) (hT : T0 = t) (l : List M.I) (hln : l.length = n) (hn : n ≤ 4096) (ok : ∀ i ∈ l, M.okI i) (hr : M.right l) (ht : t < n) (tt : Nat) (htt : M.endOf l t = tt) (w : World) (hl : Ly w b o l) :
    Calls Try.prog 46 #[.slice (some ⟨b, o, none⟩) n cap, .int .i64 T0, .int .i64 n] w fun e w' => e = .returned (.int .i64 (tt : Int)) ∧ Below w.heap.size w w' :=
  calong b o n cap t tt n T0 hT l hln hn ok (M.endOf l) (fun s hs => ⟨fun h _ => ⟨M.endOf_ja h, by rw [← hln]; exact M.tgt_lt hr ok h⟩, fun h => by
    cases hj : M.isJa (M.at0 l s) with
    | false => exact M.endOf_not hj
    | true =>
      have h1 := h hj
      have h2 := M.tgt_lt hr ok hj
      omega⟩) ht htt w hl
theorem along_near (b o n cap f t : Nat) (T0 : Int) (hT : T0 = t) (l : List M.I) (hln : l.length = n) (hn : n ≤ 4096) (ok : ∀ i ∈ l, M.okI i) (hr : M.right l) (ht : t < n) (tt : Nat) (htt : M.strt l f t = tt) (lim : Int) (hlim : lim = (f : Int) + 256) (w : World) (hl : Ly w b o l) :
    Calls Try.prog 46 #[.slice (some ⟨b, o, none⟩) n cap, .int .i64 T0, .int .i64 lim] w fun e w' => e = .returned (.int .i64 (tt : Int)) ∧ Below w.heap.size w w' :=
  calong b o n cap t tt lim T0 hT l hln hn ok (M.strt l f) (fun s hs => ⟨fun h h2 => ⟨M.strt_go ⟨h, by omega⟩, by rw [← hln]; exact M.tgt_lt hr ok h⟩, fun h => M.strt_no (fun h1 => by have := h h1.1; omega)⟩) ht htt w hl

end Go.Proofs.Ytfmlefadifpocaa.B
namespace Go.Proofs.Ytfmlefadifpocaa.B
open Go.ChangeShapes Go.WideShapes Go.ChangeAt Go.RowKit
open Go.Sort hiding Below
set_option linter.unusedVariables false

set_option maxHeartbeats 1600000 in
set_option maxRecDepth 100000 in
theorem cfar (b o n cap p q tt r : Nat) (lim : Int) (hp : p ≤ 4096) (hq : (q : Int) < 4294967296) (htt : tt ≤ 4096) (hpt : tt = p + 1 + r) (c1 c2 c3 : Nat) (w : World)
    (HC : ∀ W, Below w.heap.size w W → Calls Try.prog 46 #[.slice (some ⟨b, o, none⟩) n cap, .int .i64 ((p : Int) + 1 + (q : Int)), .int .i64 lim] W fun e w' => e = .returned (.int .i64 (tt : Int)) ∧ Below W.heap.size W w')
    (h1 : w.cell? ⟨c1, 0, none⟩ = some (.slice (some ⟨b, o, none⟩) n cap)) (h2 : w.cell? ⟨c2, 0, none⟩ = some (.int .i64 p)) (h3 : w.cell? ⟨c3, 0, none⟩ = some (.int .i64 lim)) :
    Calls Try.prog 45 #[.int .i64 q, .pointer (some ⟨c1, 0, none⟩), .pointer (some ⟨c2, 0, none⟩), .pointer (some ⟨c3, 0, none⟩)] w fun e w' => e = .returned (.int .i64 (r : Int)) ∧ Below w.heap.size w w' := by
  have k1 := cell_regrown h1
  have k2 := cell_regrown h2
  have k3 := cell_regrown h3
  have HS := hid (fun d os => Calls.regrown_of (w := w) (d := d) (os := os) (HC _ (below_regrown w d os)))
  have z1 : IntKind.i64.wrap ((p : Int) + 1) = (p : Int) + 1 := Go.IntWalk.i64_in _ (by omega)
  have z2 : IntKind.i64.wrap ((p : Int) + 1 + (q : Int)) = (p : Int) + 1 + (q : Int) := Go.IntWalk.i64_in _ (by omega)
  have z3 : IntKind.i64.wrap ((tt : Int) - (p : Int)) = (tt : Int) - (p : Int) := Go.IntWalk.i64_in _ (by omega)
  have z4 : IntKind.i64.wrap ((tt : Int) - (p : Int) - 1) = (r : Int) := (Go.IntWalk.i64_in _ (by omega)).trans (by omega)
  clear HC hp hq htt hpt h1 h2 h3
  go_enter Try.func45, Try.ntmps45
  go_wp2_with fail
  refine wp_region_quiet_below (by kernel_rfl) (by kernel_rfl) ?_
  repeat (quiet_step (exact HS.out _ _))
  refine wpQuiet_nil ?_
  intro w2 hw2
  have HB := hid (show Below w.heap.size w w2 by obtain ⟨⟨d, os⟩, rfl⟩ := hw2; exact below_regrown _ _ _)
  clear hw2 k1 k2 k3 HS
  go_wp2
  go_ret
  exact ⟨rfl, HB.out⟩

set_option maxHeartbeats 1600000 in
set_option maxRecDepth 100000 in
theorem cnear (g n p q r : Nat) (A : Nat → Nat) (hn : n ≤ 4096) (hpq : p + 1 + q < n) (hA : A (p + 1 + q) = A (p + 1) + r) (hA2 : A (p + 1 + q) ≤ 4096) (c1 c2 : Nat) (w : World) (hR : Row w g n (fun j => .int .i64 (A j : Nat)))
    (h1 : w.cell? ⟨c1, 0, none⟩ = some (.slice (some ⟨g, 0, none⟩) n n)) (h2 : w.cell? ⟨c2, 0, none⟩ = some (.int .i64 p)) :
    Calls Try.prog 35 #[.int .i64 q, .pointer (some ⟨c1, 0, none⟩), .pointer (some ⟨c2, 0, none⟩)] w fun e w' => e = .returned (.int .i64 (r : Int)) ∧ Below w.heap.size w w' := by
  have z1 : IntKind.i64.wrap ((p : Int) + 1) = (p : Int) + 1 := Go.IntWalk.i64_in _ (by omega)
  have z2 : IntKind.i64.wrap ((p : Int) + 1 + (q : Int)) = (p : Int) + 1 + (q : Int) := Go.IntWalk.i64_in _ (by omega)
  have r1 := hR.cell (p + 1) (by omega)
  have r2 := hR.cell (p + 1 + q) hpq
  obtain ⟨x, hx⟩ : ∃ x, A (p + 1) = x := ⟨_, rfl⟩
  obtain ⟨y, hy⟩ : ∃ y, A (p + 1 + q) = y := ⟨_, rfl⟩
  simp only [hx] at r1
  simp only [hy] at r2
  rw [hx, hy] at hA
  rw [hy] at hA2
  have z3 : IntKind.i64.wrap ((y : Int) - (x : Int)) = (r : Int) := (Go.IntWalk.i64_in _ (by omega)).trans (by omega)
  have z4 : ((p : Int) + 1).toNat = p + 1 := by omega
  have z5 : ((p : Int) + 1 + (q : Int)).toNat = p + 1 + q := by omega
  have z6 : (p : Int) + 1 < (n : Int) := by omega
  have z7 : (p : Int) + 1 + (q : Int) < (n : Int) := by omega
  have z8 : ¬ ((p : Int) + 1 < 0) := by omega
  have z9 : ¬ ((p : Int) + 1 + (q : Int) < 0) := by omega
  have HB := hid (Below.refl w.heap.size w)
  clear hA hA2 hx hy hR hpq
  go_enter Try.func35, Try.ntmps35
  go_wp2
  go_quiet (fail)
  go_wp2
  go_ret
  exact ⟨rfl, bdrew HB.out nq⟩
end Go.Proofs.Ytfmlefadifpocaa.B
