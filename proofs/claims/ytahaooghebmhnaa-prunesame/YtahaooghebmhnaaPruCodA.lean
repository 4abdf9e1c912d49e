/-
  The program's isJa, target, along and End, as walks over the Go text.
-/
import Derived.Test.YtahaooghebmhnaaPruRefA
namespace Go.Proofs.Ytahaooghebmhnaa.B
open Go.ChangeShapes Go.WideShapes Go.ChangeAt Go.RowKit
open Go.Sort hiding Below
set_option linter.unusedVariables false

set_option maxHeartbeats 1600000 in
set_option maxRecDepth 100000 in
theorem cisja (c t f k : Int) (j : Bool) (hj : M.isJa (c, t, f, k) = j) (w : World) :
    Calls Try.prog 39 #[.agg #[.int .u16 c, .int .u8 t, .int .u8 f, .int .u32 k]] w fun e w' => e = .returned (.bool j) ∧ Below w.heap.size w w' := by
  have HJ := hid (show (M.kind c == 11) = j from hj)
  have HB := hid (al w (.cells #[.int .u16 c, .int .u8 t, .int .u8 f, .int .u32 k] 46))
  clear hj
  go_enter Try.func39, Try.ntmps39
  go_wp2_with fail
  refine (kind_any _ _).mono ?_
  rintro e w1 ⟨rfl, rfl⟩
  go_wp2
  go_ret
  exact ⟨by rw [HJ.out]; rfl, HB.out⟩

set_option maxHeartbeats 1600000 in
set_option maxRecDepth 100000 in
theorem ctarget (b o n cap p : Nat) (hn : n ≤ 4096) (hp : p < n) (c t f : Int) (k : Nat) (hk : (k : Int) < 4294967296) (w : World) (hl : LiesAt w b o p (c, t, f, (k : Int))) :
    Calls Try.prog 40 #[.slice (some ⟨b, o, none⟩) n cap, .int .i64 p] w fun e w' => e = .returned (.int .i64 ((p + 1 + k : Nat) : Int)) ∧ w' = w := by
  have i1 : (p : Int) < (n : Int) := by omega
  obtain ⟨q0, q1, q2, q3⟩ := hl
  simp only at q0 q1 q2 q3
  go_enter Try.func40, Try.ntmps40
  go_wp2
  go_ret
  exact ⟨rfl, rfl⟩

set_option maxHeartbeats 3200000 in
set_option maxRecDepth 100000 in
theorem calong (b o n cap t0 tt : Nat) (lim T0 : Int) (hT : T0 = t0) (l : List M.I) (hln : l.length = n) (hn : n ≤ 4096) (ok : ∀ i ∈ l, M.okI i) (G : Nat → Nat)
    (hG : ∀ t, t < n → (M.isJa (M.at0 l t) = true → ((M.tgt l t : Nat) : Int) ≤ lim → G t = G (M.tgt l t) ∧ M.tgt l t < n) ∧ ((M.isJa (M.at0 l t) = true → lim < ((M.tgt l t : Nat) : Int)) → G t = t))
    (ht0 : t0 < n) (htt : G t0 = tt) (w : World) (hl : Ly w b o l) :
    Calls Try.prog 28 #[.slice (some ⟨b, o, none⟩) n cap, .int .i64 T0, .int .i64 lim] w fun e w' => e = .returned (.int .i64 (tt : Int)) ∧ Below w.heap.size w w' := by
  subst hT
  have HH := hid (And.intro hln (And.intro ok (And.intro hl (And.intro hG htt))))
  have HB0 := hid (Below.refl w.heap.size w)
  clear hln ok hl hG htt
  go_enter Try.func28, Try.ntmps28
  go_wp2
  go_loopw [1] (fun i wr => ∃ t : Nat, t < n ∧ i = .int .i64 t ∧ Hid (G t = tt ∧ Below w.heap.size w wr)) (fun i _ => n - (intOf i).toNat)
  case atStart => exact ⟨t0, ht0, rfl, HH.out.2.2.2.2, HB0.out⟩
  case round =>
    clear HB0
    obtain ⟨t, htn, rfl, HR⟩ := hrel
    have htl : t < l.length := by rw [HH.out.1]; exact htn
    have i1 : (t : Int) < (n : Int) := by omega
    obtain ⟨x, hx⟩ : ∃ x, l[t] = x := ⟨_, rfl⟩
    have h0x : M.at0 l t = x := by rw [M.at0_eq htl]; exact hx
    have hok : M.okI x := hx ▸ HH.out.2.1 _ (List.getElem_mem htl)
    have HQ := hid (fun W (hb : Below wr.heap.size wr W) => (by rw [← hx]; exact (HH.out.2.2.1.below (stp (hid HR.out.2) hb).out).2 t htl : LiesAt W b o t x))
    have HE := hid (HH.out.2.2.2.1 t htn)
    have e : M.tgt l t = t + 1 + x.2.2.2.toNat := by unfold M.tgt; rw [h0x]
    rw [h0x, e] at HE
    clear hx h0x htl e
    obtain ⟨c, jt, jf, k⟩ := x
    obtain ⟨_, _, _, b3⟩ := hok
    simp only at b3
    obtain ⟨k, rfl⟩ : ∃ k' : Nat, k = k' := ⟨k.toNat, by omega⟩
    simp only [Int.toNat_natCast] at HE
    obtain ⟨q0, q1, q2, q3⟩ := HQ.out wr (Below.refl _ _)
    simp only at q0 q1 q2 q3
    cases hj : M.isJa (c, jt, jf, (k : Int)) with
    | false =>
      have HJ := hid (cisja c jt jf k false hj)
      have HF := hid (show t = tt from by rw [← HR.out.1]; exact (HE.out.2 (fun h => by rw [hj] at h; cases h)).symm)
      clear hj HE
      go_wp2_with fail
      refine (HJ.out _).mono ?_
      rintro e w1 ⟨rfl, hb⟩
      have HB := stp (hid HR.out.2) hb
      clear hb q0 q1 q2 q3 HQ HR
      go_wp2
      go_ret
      exact ⟨by rw [HF.out]; rfl, HB.out⟩
    | true =>
      have HJ := hid (cisja c jt jf k true hj)
      have HT := hid (fun W (h : LiesAt W b o t (c, jt, jf, (k : Int))) => ctarget b o n cap t hn htn c jt jf k b3.2 W h)
      obtain ⟨m, hm⟩ : ∃ m, t + 1 + k = m := ⟨_, rfl⟩
      rw [hm] at HE HT
      have hmt : t < m := by omega
      have hm2 : m ≤ 4294971394 := by omega
      by_cases hlim : (m : Int) ≤ lim
      · have d2 : decide ((m : Int) ≤ lim) = true := decide_eq_true hlim
        obtain ⟨he, htm⟩ := HE.out.1 hj hlim
        have HE2 := hid (he.symm.trans HR.out.1)
        clear hj he HE hlim hm b3
        go_wp2_with fail
        refine (HJ.out _).mono ?_
        rintro e w1 ⟨rfl, hb⟩
        have HB := stp (hid HR.out.2) hb
        have HL := hid (HQ.out _ hb)
        clear hb q0 q1 q2 q3 HQ HR
        go_wp2_with fail
        refine (HT.out _ HL.out).mono ?_
        rintro e w2 ⟨rfl, rfl⟩
        go_wp2_with fail
        refine (HT.out _ HL.out).mono ?_
        rintro e w2 ⟨rfl, rfl⟩
        go_wp2
        go_roundw
        case rel => exact ⟨m, htm, rfl, HE2.out, HB.out⟩
        case measure => simp [intOf]; omega
      · have d2 : decide ((m : Int) ≤ lim) = false := decide_eq_false hlim
        have HF := hid (show t = tt from by rw [← HR.out.1]; exact (HE.out.2 (fun _ => by omega)).symm)
        clear hj HE hlim hm b3
        go_wp2_with fail
        refine (HJ.out _).mono ?_
        rintro e w1 ⟨rfl, hb⟩
        have HB := stp (hid HR.out.2) hb
        have HL := hid (HQ.out _ hb)
        clear hb q0 q1 q2 q3 HQ HR
        go_wp2_with fail
        refine (HT.out _ HL.out).mono ?_
        rintro e w2 ⟨rfl, rfl⟩
        go_wp2
        go_ret
        exact ⟨by rw [HF.out]; rfl, HB.out⟩

theorem along_end (b o n cap t : Nat) (T0 : Int) (hT : T0 = t) (l : List M.I) (hln : l.length = n) (hn : n ≤ 4096) (ok : ∀ i ∈ l, M.okI i) (hr : M.right l) (ht : t < n) (tt : Nat) (htt : M.endOf l t = tt) (w : World) (hl : Ly w b o l) :
    Calls Try.prog 28 #[.slice (some ⟨b, o, none⟩) n cap, .int .i64 T0, .int .i64 n] w fun e w' => e = .returned (.int .i64 (tt : Int)) ∧ Below w.heap.size w w' :=
  calong b o n cap t tt n T0 hT l hln hn ok (M.endOf l) (fun s hs => ⟨fun h _ => ⟨M.endOf_ja h, by rw [← hln]; exact M.tgt_lt hr ok h⟩, fun h => by
    cases hj : M.isJa (M.at0 l s) with
    | false => exact M.endOf_not hj
    | true =>
      have h1 := h hj
      have h2 := M.tgt_lt hr ok hj
      omega⟩) ht htt w hl
theorem along_near (b o n cap f t : Nat) (T0 : Int) (hT : T0 = t) (l : List M.I) (hln : l.length = n) (hn : n ≤ 4096) (ok : ∀ i ∈ l, M.okI i) (hr : M.right l) (ht : t < n) (tt : Nat) (htt : M.strt l f t = tt) (lim : Int) (hlim : lim = (f : Int) + 256) (w : World) (hl : Ly w b o l) :
    Calls Try.prog 28 #[.slice (some ⟨b, o, none⟩) n cap, .int .i64 T0, .int .i64 lim] w fun e w' => e = .returned (.int .i64 (tt : Int)) ∧ Below w.heap.size w w' :=
  calong b o n cap t tt lim T0 hT l hln hn ok (M.strt l f) (fun s hs => ⟨fun h h2 => ⟨M.strt_go ⟨h, by omega⟩, by rw [← hln]; exact M.tgt_lt hr ok h⟩, fun h => M.strt_no (fun h1 => by have := h h1.1; omega)⟩) ht htt w hl

set_option maxHeartbeats 1600000 in
set_option maxRecDepth 100000 in
theorem cend_low (a : Option Addr) (n cap : Nat) (i : Int) (hi : i < 0) (w : World) :
    Calls Try.prog 12 #[.slice a n cap, .int .i64 i] w fun e w' => e = .returned (.int .i64 i) ∧ w' = w := by
  have d : decide (i < 0) = true := decide_eq_true hi
  clear hi
  go_enter Try.func12, Try.ntmps12
  go_wp2
  go_ret
  exact ⟨rfl, rfl⟩
set_option maxHeartbeats 1600000 in
set_option maxRecDepth 100000 in
theorem cend_high (a : Option Addr) (n cap : Nat) (i : Int) (h0 : ¬ i < 0) (hi : (n : Int) ≤ i) (w : World) :
    Calls Try.prog 12 #[.slice a n cap, .int .i64 i] w fun e w' => e = .returned (.int .i64 i) ∧ w' = w := by
  have d : decide (i < 0) = false := decide_eq_false h0
  have d2 : decide ((n : Int) ≤ i) = true := decide_eq_true hi
  clear hi h0
  go_enter Try.func12, Try.ntmps12
  go_wp2
  go_ret
  exact ⟨rfl, rfl⟩
set_option maxHeartbeats 1600000 in
set_option maxRecDepth 100000 in
theorem cend_bad (a : Option Addr) (n cap : Nat) (l : List M.I) (hln : l.length = n) (hn : n ≤ 4096) (ok : ∀ i ∈ l, M.okI i) (hb : M.rightB l = false) (i : Int) (h0 : ¬ i < 0) (hi : ¬ (n : Int) ≤ i) (w : World) (hl : Lies w a l) :
    Calls Try.prog 12 #[.slice a n cap, .int .i64 i] w fun e w' => e = .returned (.int .i64 i) ∧ Below w.heap.size w w' := by
  have d : decide (i < 0) = false := decide_eq_false h0
  have d2 : decide ((n : Int) ≤ i) = false := decide_eq_false hi
  have HC := hid (right_any a n cap l hln (by omega) ok w hl false hb)
  clear hi h0 hln ok hb hl
  go_enter Try.func12, Try.ntmps12
  go_wp2_with fail
  refine HC.out.mono ?_
  rintro e w1 ⟨rfl, hb⟩
  have HB := hid hb
  clear hb HC
  go_wp2
  go_ret
  exact ⟨rfl, HB.out⟩
set_option maxHeartbeats 1600000 in
set_option maxRecDepth 100000 in
theorem cend_good (b o n cap p : Nat) (l : List M.I) (hln : l.length = n) (hn : n ≤ 4096) (ok : ∀ i ∈ l, M.okI i) (hr : M.right l) (hp : p < n) (w : World) (hl : Ly w b o l) :
    Calls Try.prog 12 #[.slice (some ⟨b, o, none⟩) n cap, .int .i64 p] w fun e w' => e = .returned (.int .i64 ((M.endOf l p : Nat) : Int)) ∧ Below w.heap.size w w' := by
  have d : decide ((p : Int) < 0) = false := decide_eq_false (by omega)
  have d2 : decide (n ≤ p) = false := decide_eq_false (by omega)
  have HC := hid (right_any (some ⟨b, o, none⟩) n cap l hln (by omega) ok w hl.lies true (M.right_of.2 hr))
  have HA := hid (fun W (h : Ly W b o l) => along_end b o n cap p p rfl l hln hn ok hr hp (M.endOf l p) rfl W h)
  have HL := hid hl
  clear hp hln ok hr hl
  go_enter Try.func12, Try.ntmps12
  go_wp2_with fail
  refine HC.out.mono ?_
  rintro e w1 ⟨rfl, hb⟩
  have HB := hid hb
  clear hb HC
  go_wp2_with fail
  refine (HA.out _ (HL.out.below HB.out)).mono ?_
  rintro e w2 ⟨rfl, hb⟩
  replace HB := stp HB hb
  clear hb HA
  go_wp2
  go_ret
  exact ⟨rfl, HB.out⟩
theorem cend (a : Option Addr) (n cap : Nat) (l : List M.I) (i : Int) (hln : l.length = n) (hn : n ≤ 4096) (ok : ∀ i ∈ l, M.okI i) (w : World) (hl : Lies w a l) :
    Calls Try.prog 12 #[.slice a n cap, .int .i64 i] w fun e w' => e = .returned (.int .i64 (if M.rightB l = true then M.endI l i else i)) ∧ Below w.heap.size w w' := by
  by_cases h0 : i < 0
  · have e0 : (if M.rightB l = true then M.endI l i else i) = i := by rw [M.endI_out (.inl h0)]; simp
    rw [e0]
    exact (cend_low a n cap i h0 w).mono fun e w' h => ⟨h.1, h.2 ▸ Below.refl _ _⟩
  · by_cases hi : (n : Int) ≤ i
    · have e0 : (if M.rightB l = true then M.endI l i else i) = i := by rw [M.endI_out (.inr (by omega))]; simp
      rw [e0]
      exact (cend_high a n cap i h0 hi w).mono fun e w' h => ⟨h.1, h.2 ▸ Below.refl _ _⟩
    · cases hb : M.rightB l with
      | false =>
        rw [if_neg (by simp)]
        exact cend_bad a n cap l hln hn ok hb i h0 hi w hl
      | true =>
        rw [if_pos rfl]
        obtain ⟨p, rfl⟩ : ∃ p : Nat, i = p := ⟨i.toNat, by omega⟩
        obtain ⟨b, o, rfl, hly⟩ := hl.ly (by omega)
        rw [M.endI_at (by omega)]
        exact cend_good b o n cap p l hln hn ok (M.right_of.1 hb) (by omega) w hly
end Go.Proofs.Ytahaooghebmhnaa.B
