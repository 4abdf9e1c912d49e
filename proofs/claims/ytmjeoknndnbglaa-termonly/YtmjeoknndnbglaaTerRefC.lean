/-
  The reference's Uses and Sizes of layer 11, as walks over the Go text.
-/
import Derived.Test.YtmjeoknndnbglaaTerRefB
namespace Go.Proofs.Ytmjeoknndnbglaa.TB
open Go.ChangeShapes Go.WideShapes Go.ChangeAt Go.RowKit
open Go.Sort hiding Below
set_option linter.unusedVariables false

set_option maxHeartbeats 3200000 in
set_option maxRecDepth 1000000 in
theorem ruses_any (b o n cap t : Nat) (l : List TM.N) (hln : l.length = n) (hr : TM.Row l) (ok : ∀ x ∈ l, TM.okN x) (ht : t < n) (w : World) (hl : LyN w b o l) :
    Calls Try.prog 17 #[.slice (some ⟨b, o, none⟩) n cap, .int .i64 t] w fun e w' => e = .returned (.int .u16 ((TM.uses l t : Nat) : Int)) ∧ Below w.heap.size w w' := by
  have hn : n ≤ 65536 := by rw [← hln]; exact hr.1
  have HI := hid (rin_any b o n cap t l hln hr ok ht w hl)
  have HH := hid (And.intro hln (And.intro ok (And.intro hl hr)))
  have hbl : b < w.heap.size := hl.1
  clear hln ok hl hr
  go_enter Try.func17, Try.ntmps17
  go_wp2_with fail
  refine HI.out.mono ?_
  rintro e w1 ⟨g, rfl, hR, hb, hg⟩
  have HM := hid (And.intro hR hb)
  clear hR hb HI hg
  go_wp2
  go_loopw [5, 7] (fun nv iv wr => ∃ (k u : Nat), k ≤ n ∧ u < 65536 ∧ nv = .int .u16 u ∧ iv = .int .i64 k ∧ Hid (TM.usesK l t k = u ∧ Row wr g n (fun j => .bool (TM.inT l t j)) ∧ Below w.heap.size w wr)) (fun _ iv _ => n - (intOf iv).toNat)
  case atStart => exact ⟨0, 0, Nat.zero_le _, by omega, rfl, rfl, rfl, HM.out⟩
  case round =>
    clear HM
    obtain ⟨k, u, hk, hu, rfl, rfl, HR⟩ := hrel
    by_cases hlt : k < n
    · have i2 : (k : Int) < (n : Int) := by omega
      have hkl : k < l.length := by rw [HH.out.1]; exact hlt
      have cr := HR.out.2.1.cell k hlt
      have h0x := TM.nat0_eq hkl
      have hokx := TM.nat0_ok HH.out.2.1 k
      have HK := hid (show TM.usesK l t (k + 1) = if TM.inT l t k = true ∧ (TM.nat0 l k).1 = 2 then u ||| 2 ^ (TM.nat0 l k).2.2.2.toNat else u from by rw [TM.usesK, HR.out.1])
      have HW := hid (fun h => TM.word_lt HH.out.2.2.2 hkl h)
      obtain ⟨q0, q1, q2, q3⟩ := (HH.out.2.2.1.far HR.out.2.2 hbl).2 k hkl
      obtain ⟨x, hx⟩ : ∃ x, l[k] = x := ⟨_, rfl⟩
      rw [hx] at q0 q1 q2 q3 h0x
      rw [h0x] at HK HW hokx
      clear hx h0x
      obtain ⟨xo, xa, xb, xk⟩ := x
      simp only at q0 q1 q2 q3 HK HW
      obtain ⟨_, _, _, b3⟩ := hokx
      simp only at b3
      obtain ⟨d, rfl⟩ : ∃ d : Nat, xk = d := ⟨xk.toNat, by omega⟩
      simp only [Int.toNat_natCast] at HK
      cases hc : TM.inT l t k with
      | false =>
        simp only [hc] at cr
        have HF := hid (show TM.usesK l t (k + 1) = u from by rw [HK.out, if_neg (by rw [hc]; simp)])
        clear hc
        go_wp2
        go_roundw
        case rel => exact ⟨k + 1, u, by omega, hu, rfl, by go_num, HF.out, HR.out.2⟩
        case measure => simp [intOf]; omega
      | true =>
        simp only [hc] at cr
        by_cases h2 : xo = 2
        · subst h2
          have hd := HW.out rfl
          have hd2 : d < 16 := by omega
          obtain ⟨p2, hp2⟩ : ∃ p2 : Nat, 2 ^ d = p2 := ⟨_, rfl⟩
          have hpl : p2 < 65536 := by
            rw [← hp2]
            have : (2 : Nat) ^ d < 2 ^ 16 := Nat.pow_lt_pow_right (by omega) hd2
            omega
          have hwv : IntKind.u16.wrap (2 ^ d) = (p2 : Int) := by
            rw [IntKind.wrap_u16, show (2 : Int) ^ d = (p2 : Int) by rw [← hp2]; simp]
            omega
          obtain ⟨z, hzz⟩ : ∃ z : Nat, u ||| p2 = z := ⟨_, rfl⟩
          have hz : z < 65536 := by rw [← hzz]; exact Nat.or_lt_two_pow (n := 16) hu hpl
          have hor : bits .or .u16 (u : Int) (p2 : Int) = (z : Int) := by
            rw [u16_or _ _ (by omega) (by omega) (by omega) (by omega), ← hzz]; simp
          have HF := hid (show TM.usesK l t (k + 1) = z from by rw [HK.out, if_pos ⟨hc, rfl⟩, hp2, hzz])
          clear hc hzz hp2 HK HW hd
          go_wp2
          go_roundw
          case rel => exact ⟨k + 1, z, by omega, hz, by first | rfl | (rw [← hor]), by go_num, HF.out, HR.out.2⟩
          case measure => simp [intOf]; omega
        · have d2 : (xo == 2) = false := beq_eq_false_iff_ne.2 h2
          have HF := hid (show TM.usesK l t (k + 1) = u from by rw [HK.out, if_neg (fun h => h2 h.2)])
          clear hc h2 HK HW
          go_wp2
          go_roundw
          case rel => exact ⟨k + 1, u, by omega, hu, rfl, by go_num, HF.out, HR.out.2⟩
          case measure => simp [intOf]; omega
    · obtain rfl : k = n := by omega
      have HF := hid (show TM.uses l t = u from by unfold TM.uses; rw [HH.out.1]; exact HR.out.1)
      go_wp2
      go_ret
      exact ⟨by rw [HF.out]; rfl, HR.out.2.2⟩

set_option maxHeartbeats 3200000 in
set_option maxRecDepth 1000000 in
theorem rsizes_any (A : Option Addr) (n cap : Nat) (l : List TM.N) (hln : l.length = n) (hr : TM.Row l) (ok : ∀ x ∈ l, TM.okN x) (w : World) (hl : LiesN w A l) :
    Calls Try.prog 18 #[.slice A n cap] w fun e w' => ∃ g, e = .returned (.slice (some ⟨g, 0, none⟩) n n) ∧ Row w' g n (fun j => .int .u64 ((TM.sz l j : Nat) : Int)) ∧ Below w.heap.size w w' ∧ w.heap.size ≤ g := by
  obtain ⟨i0, hi, hz0, hz1, hz2⟩ := info_parts infoU
  have hn : n ≤ 65536 := by rw [← hln]; exact hr.1
  have HH := hid (And.intro hln (And.intro ok (And.intro hl hr)))
  clear hln ok hl hr
  go_enter Try.func18, Try.ntmps18
  go_wp2_with (at_make; refine wpList_make_full _ rfl _ _ 45 rfl w.heap.size 47 i0 (.int .u64 0) 1 Try.underlying45 hi hz0 hz1 .i64 .i64 n n n rfl rfl rfl rfl ?c1 ?c2 (Nat.le_refl _) ?_)
  case c1 => rw [hz2]; omega
  case c2 => unfold maxLen; omega
  intro wm hown hgrow
  have hbm : Below w.heap.size w wm := (Below.refl _ _).grown hgrow (Nat.le_refl _) (by intro k hk; cases hk)
  have HM := hid (show Row wm w.heap.size n (fun j => .int .u64 ((if j < 0 then TM.sz l j else 0 : Nat) : Int)) ∧ Below w.heap.size w wm from ⟨(Row.of_own hown (fun j hj => made_get (.int .u64 0) n j hj) (hown.lt _ rfl).2).congr fun j _ => rfl, hbm⟩)
  clear hown hgrow hbm
  go_wp2
  go_loopw [4] (fun iv wr => ∃ (k : Nat), k ≤ n ∧ iv = .int .i64 k ∧ Hid (Row wr w.heap.size n (fun j => .int .u64 ((if j < k then TM.sz l j else 0 : Nat) : Int)) ∧ Below w.heap.size w wr)) (fun iv _ => n - (intOf iv).toNat)
  case atStart => exact ⟨0, Nat.zero_le _, rfl, HM.out⟩
  case round =>
    clear HM
    obtain ⟨k, hk, rfl, HR⟩ := hrel
    by_cases hlt : k < n
    · have i2 : (k : Int) < (n : Int) := by omega
      have hkl : k < l.length := by rw [HH.out.1]; exact hlt
      obtain ⟨b, o, rfl, hly⟩ := HH.out.2.2.1.ly (by omega)
      obtain ⟨x, hx⟩ : ∃ x, l[k] = x := ⟨_, rfl⟩
      have h0x : TM.nat0 l k = x := by rw [TM.nat0_eq hkl]; exact hx
      have hmay : TM.may x k = true := by rw [← h0x]; exact HH.out.2.2.2.2 k hkl
      obtain ⟨q0, q1, q2, q3⟩ := (by rw [← hx]; exact (hly.far HR.out.2 hly.1).2 k hkl : NodeAt wr b o k x)
      obtain ⟨js, hjs⟩ : ∃ js, TM.parts x = js := ⟨_, rfl⟩
      have HJ := hid (show (∀ y ∈ js, y < k) ∧ TM.sz l k = min (1 + (js.map (TM.sz l)).sum) 1125899906842624 ∧ (∀ y, y < n → TM.sz l y ≤ 1125899906842624) from
        ⟨fun y hy => by rw [← hjs] at hy; exact TM.parts_lt hmay hy, by rw [TM.sz_row HH.out.2.2.2 hkl, h0x]; unfold TM.szN; rw [hjs], fun y hy => TM.sz_le l y HH.out.2.2.2 (by rw [HH.out.1]; exact hy)⟩)
      have hlen : js.length ≤ 2 := by rw [← hjs]; exact TM.parts_len x
      obtain ⟨xo, xa, xb, xk⟩ := x
      have HN := hid (fun W => rparts_any xo xa xb xk k hmay W js hjs)
      simp only at q0 q1 q2 q3
      clear hjs hx h0x hmay hly
      obtain ⟨m, hm⟩ : ∃ m, js.length = m := ⟨_, rfl⟩
      rw [hm] at HN hlen
      go_wp2_with fail
      refine (HN.out _).mono ?_
      rintro e w3 ⟨a, ca, rfl, hnx, hb, hfr⟩
      have HI := hid (show Row w3 w.heap.size n (fun j => .int .u64 ((if j < k then TM.sz l j else 0 : Nat) : Int)) ∧ Below w.heap.size w w3 ∧ Nx w3 a js from
        ⟨HR.out.1.below hb, (stp (hid HR.out.2) hb).out, hnx⟩)
      have HGN := hid (show ∀ A, a = some A → A.block ≠ w.heap.size from fun A hA => by have := hfr A hA; have := HR.out.1.lt; omega)
      have HMM := hid hm
      clear hb hnx hfr HN HR hm q0 q1 q2 q3
      go_wp2
      go_loopw [5, 7] (fun nv iv wr => ∃ s u : Nat, s ≤ m ∧ u ≤ 1 + s * 1125899906842624 ∧ nv = .int .u64 u ∧ iv = .int .i64 s ∧ Hid (u = 1 + ((js.take s).map (TM.sz l)).sum ∧ Row wr w.heap.size n (fun j => .int .u64 ((if j < k then TM.sz l j else 0 : Nat) : Int)) ∧ Below w.heap.size w wr ∧ Nx wr a js)) (fun _ iv _ => m - (intOf iv).toNat)
      case atStart => exact ⟨0, 1, Nat.zero_le _, by omega, rfl, rfl, by simp, HI.out⟩
      case round =>
        clear HI
        obtain ⟨s, u, hs, hub, rfl, rfl, HQ⟩ := hrel
        by_cases hs2 : s < m
        · have i3 : (s : Int) < (m : Int) := by omega
          have hsj : s < js.length := by rw [HMM.out]; exact hs2
          obtain ⟨g', rfl⟩ : ∃ g', a = some ⟨g', 0, none⟩ := by
            rcases HQ.out.2.2.2 with h | ⟨g', e, _⟩
            · rw [h] at hsj; simp at hsj
            · exact ⟨g', e⟩
          have cy := nx_get HQ.out.2.2.2 s hsj
          obtain ⟨y, hy⟩ : ∃ y, js[s] = y := ⟨_, rfl⟩
          rw [hy] at cy
          have hyk : y < k := HJ.out.1 y (by rw [← hy]; exact List.getElem_mem hsj)
          have i4 : (y : Int) < (n : Int) := by omega
          have cR := HQ.out.2.1.cell y (by omega)
          rw [if_pos hyk] at cR
          have hvb := HJ.out.2.2 y (by omega)
          obtain ⟨v, hv⟩ : ∃ v, TM.sz l y = v := ⟨_, rfl⟩
          rw [hv] at cR hvb
          have HU := hid (show u + v = 1 + ((js.take (s + 1)).map (TM.sz l)).sum from by
            rw [List.take_succ_eq_append_getElem hsj, List.map_append, List.sum_append, hy, HQ.out.1]
            simp [hv]; omega)
          have hub2 : u + v ≤ 1 + (s + 1) * 1125899906842624 := by omega
          have hub3 : (u : Int) + (v : Int) < 18446744073709551616 := by
            have : s * 1125899906842624 ≤ 2 * 1125899906842624 := Nat.mul_le_mul_right _ (by omega)
            omega
          have hwr : IntKind.u64.wrap ((u : Int) + (v : Int)) = ((u + v : Nat) : Int) := by rw [IntKind.wrap_u64]; omega
          have HUB := hid hub2
          clear hy hv hub hub2 hvb
          go_wp2
          go_roundw
          case rel => exact ⟨s + 1, u + v, by omega, HUB.out, by go_num, by go_num, HU.out, HQ.out.2⟩
          case measure => simp [intOf]; omega
        · obtain rfl : s = m := by omega
          have hmin : TM.sz l k = min u 1125899906842624 := by rw [HJ.out.2.1, HQ.out.1, ← HMM.out, List.take_length]
          have c4 := HQ.out.2.1.cell k hlt
          have f4 := HQ.out.2.1.froz k hlt
          obtain ⟨z, hz⟩ : ∃ z, min u 1125899906842624 = z := ⟨_, rfl⟩
          rw [hz] at hmin
          obtain ⟨V, hV⟩ : ∃ V, wr.setCell ⟨w.heap.size, k, none⟩ (.int .u64 (z : Int)) = V := ⟨_, rfl⟩
          have HF := hid (show Row V w.heap.size n (fun j => .int .u64 ((if j < k + 1 then TM.sz l j else 0 : Nat) : Int)) ∧ Below w.heap.size w V from by
            rw [← hV]
            exact ⟨(HQ.out.2.1.set k hlt _).congr fun j hj => by
              by_cases e : j = k
              · subst e; rw [if_pos rfl, if_pos (by omega), hmin]
              · rw [if_neg e]
                by_cases e2 : j < k
                · rw [if_pos e2, if_pos (by omega)]
                · rw [if_neg e2, if_neg (by omega)], HQ.out.2.2.1.setCell (Nat.le_refl _) _⟩)
          have hmn : (if (u : Int) ≤ 1125899906842624 then (u : Int) else 1125899906842624) = (z : Int) := by
            rw [← hz]; split <;> omega
          have hmn2 : (if 1125899906842624 < (u : Int) then 1125899906842624 else (u : Int)) = (z : Int) := by
            rw [← hz]; split <;> omega
          clear hz hmin hub HQ
          go_wp2
          go_roundw
          case rel => exact ⟨k + 1, by omega, by go_num, HF.out⟩
          case measure => simp [intOf]; omega
    · obtain rfl : k = n := by omega
      have HF := hid (show Row wr w.heap.size k (fun j => .int .u64 ((TM.sz l j : Nat) : Int)) from HR.out.1.congr fun j hj => by rw [if_pos hj])
      go_wp2
      go_ret
      exact ⟨w.heap.size, rfl, HF.out, HR.out.2, Nat.le_refl _⟩
end Go.Proofs.Ytmjeoknndnbglaa.TB
