/-
  What the reference needs, as a walk over the Go text.
-/
import Derived.Test.YtahaooghebmhnaaPruRefB
namespace Go.Proofs.Ytahaooghebmhnaa.M
/-- is one of those behind it, ahead of q, needed? -/
def anN (s : List I) (k q : Nat) : Bool := (List.range q).any fun j => decide (k < j) && nd s j
theorem anN_start (s : List I) (k : Nat) : anN s k (k + 1) = false := by
  unfold anN
  rw [List.any_eq_false]
  intro j hj
  have := List.mem_range.1 hj
  rw [decide_eq_false (by omega)]; simp
theorem anN_succ (s : List I) {k q : Nat} (h : k < q) : anN s k (q + 1) = (anN s k q || nd s q) := by
  unfold anN
  rw [List.range_succ, List.any_append]
  simp [h]
theorem nd_rch {s : List I} {i : Nat} (h : rch s i = false) : nd s i = false := by rw [nd_eq, h]; rfl
theorem nd_not {s : List I} {i : Nat} (h : isJa (at0 s i) = false) : nd s i = rch s i := by rw [nd_eq, h]; simp
theorem nd_ja {s : List I} {i : Nat} (h1 : rch s i = true) (h : isJa (at0 s i) = true) : nd s i = anN s i (tgt s i) := by rw [nd_eq, h, h1]; simp [anN]
end Go.Proofs.Ytahaooghebmhnaa.M
namespace Go.Proofs.Ytahaooghebmhnaa.B
open Go.ChangeShapes Go.WideShapes Go.ChangeAt Go.RowKit
open Go.Sort hiding Below
set_option linter.unusedVariables false

theorem Ro.str {W : World} {g n : Nat} {l : List M.I} (h : Ro W g n (M.strI l)) (hn : l.length = n) : Ly W g 0 (M.strL l) :=
  h.ly (by rw [M.strL_len]; exact hn) fun j hj => by
    rw [← M.at0_eq hj, M.strL_at (by rw [M.strL_len] at hj; exact hj)]

set_option maxHeartbeats 6400000 in
set_option maxRecDepth 1000000 in
theorem rneed_any (b o n cap : Nat) (l : List M.I) (hln : l.length = n) (hn : n ≤ 4096) (ok : ∀ i ∈ l, M.okI i) (hr : M.right l) (w : World) (hl : Ly w b o l) :
    Calls Try.prog 13 #[.slice (some ⟨b, o, none⟩) n cap] w fun e w' => ∃ g, e = .returned (.slice (some ⟨g, 0, none⟩) n n) ∧ Row w' g n (fun j => .bool (M.nd (M.strL l) j)) ∧ Below w.heap.size w w' ∧ w.heap.size ≤ g := by
  have h0 : 0 < n := by rw [← hln]; exact ((M.right_iff l).1 hr).1.1
  have HC := hid (rstr_any b o n cap l hln hn ok hr w hl)
  have HW := hid (fun g c W (h : Ly W g 0 (M.strL l)) => without_any g 0 n c (M.strL l) (by rw [M.strL_len]; exact hln) h0 (by omega) (M.strL_ok hr ok) W h (-1))
  have HH := hid (And.intro hln (And.intro ok (And.intro hl hr)))
  clear hln ok hl hr
  go_enter Try.func13, Try.ntmps13
  go_wp2_with fail
  refine HC.out.mono ?_
  rintro e w1 ⟨g, cg, rfl, hR, hb, hg⟩
  have HR := hid (And.intro hR (And.intro hb hg))
  clear hR hb hg HC
  go_wp2_with fail
  refine (HW.out _ _ _ (HR.out.1.str HH.out.1)).mono ?_
  rintro e w2 ⟨go, rfl, hO, hb, hgo⟩
  have hgg : g < go := Nat.lt_of_lt_of_le HR.out.1.lt hgo
  have hwg : w.heap.size ≤ g := HR.out.2.2
  have HM := hid (show Row w2 go n (fun j => .bool (if n ≤ j then M.nd (M.strL l) j else M.rch (M.strL l) j)) ∧ Ro w2 g n (M.strI l) ∧ Below w.heap.size w w2 from
    ⟨hO.congr (fun j hj => by rw [if_neg (by omega)]; rfl), HR.out.1.below hb, (stp (hid HR.out.2.1) hb).out⟩)
  clear hO hb hgo HW HR
  go_wp2
  go_loopw [5] (fun i wr => ∃ k : Nat, k ≤ n ∧ i = .int .i64 ((k : Int) - 1) ∧ Hid (Row wr go n (fun j => .bool (if k ≤ j then M.nd (M.strL l) j else M.rch (M.strL l) j)) ∧ Ro wr g n (M.strI l) ∧ Below w.heap.size w wr)) (fun i _ => (intOf i + 1).toNat)
  case atStart => exact ⟨n, Nat.le_refl _, by go_num, HM.out⟩
  case round =>
    clear HM
    obtain ⟨k, hk, rfl, HR⟩ := hrel
    cases k with
    | succ k =>
      rw [show ((k + 1 : Nat) : Int) - 1 = (k : Int) by omega] at *
      have i2 : (k : Int) < (n : Int) := by omega
      have hlt : k < n := by omega
      have hkl : k < l.length := by rw [HH.out.1]; omega
      have co := HR.out.1.cell k hlt
      simp only [if_neg (show ¬ k + 1 ≤ k by omega)] at co
      have HU := hid (fun (V : Bool) (h : M.nd (M.strL l) k = V) j => (show (if k ≤ j then M.nd (M.strL l) j else M.rch (M.strL l) j) = if j = k then V else (if k + 1 ≤ j then M.nd (M.strL l) j else M.rch (M.strL l) j) by
        by_cases e : j = k
        · subst e; rw [if_pos (Nat.le_refl _), if_pos rfl, h]
        · rw [if_neg e]
          by_cases e2 : k ≤ j
          · rw [if_pos e2, if_pos (by omega)]
          · rw [if_neg e2, if_neg (by omega)]))
      cases hc : M.rch (M.strL l) k with
      | false =>
        simp only [hc] at co
        have HN := hid (M.nd_rch hc)
        have HC2 := hid hc
        clear hc
        go_wp2
        go_roundw
        case rel => exact ⟨k, by omega, by go_num, HR.out.1.congr (fun j hj => by
          rw [HU.out _ HN.out j]
          by_cases e : j = k
          · subst e; rw [if_pos rfl, if_neg (by omega), HC2.out]
          · rw [if_neg e]), HR.out.2⟩
        case measure => simp [intOf]
      | true =>
        simp only [hc] at co
        obtain ⟨x, hx⟩ : ∃ x, M.strI l k = x := ⟨_, rfl⟩
        have h0x : M.at0 (M.strL l) k = x := by rw [M.strL_at hkl]; exact hx
        have hok : M.okI x := hx ▸ M.strI_ok HH.out.2.2.2 HH.out.2.1 k
        have r0 := HR.out.2.1.c0 k hlt
        rw [hx] at r0
        have HR3 := hid (fun W (h : Ro W g n (M.strI l)) => (by have := h.c3 k hlt; rw [hx] at this; exact this : W.cell? ⟨g, k * 4 + 3, none⟩ = some (.int .u32 x.2.2.2)))
        have HT := hid (show (M.isJa x = false → M.nd (M.strL l) k = true) ∧ (M.isJa x = true → M.nd (M.strL l) k = M.anN (M.strL l) k (k + 1 + x.2.2.2.toNat) ∧ k + 1 + x.2.2.2.toNat < n) from
          ⟨fun h => by rw [M.nd_not (by rw [h0x]; exact h), hc], fun h => by
            have h' : M.isJa (M.at0 (M.strL l) k) = true := by rw [h0x]; exact h
            have e : M.tgt (M.strL l) k = k + 1 + x.2.2.2.toNat := by unfold M.tgt; rw [h0x]
            have hjl : M.isJa (M.at0 l k) = true := by rw [← M.strL_ja]; exact h'
            refine ⟨by rw [M.nd_ja hc h', e], ?_⟩
            rw [← e, M.strL_tgt hjl, ← HH.out.1]
            exact M.endOf_lt HH.out.2.2.2 HH.out.2.1 hkl⟩)
        have HC2 := hid hc
        clear hc hx h0x
        obtain ⟨c, t, f, d⟩ := x
        obtain ⟨b0, b1, b2, b3⟩ := hok
        simp only at b0 b3 r0 HR3
        obtain ⟨d, rfl⟩ : ∃ d' : Nat, d = d' := ⟨d.toNat, by omega⟩
        simp only [Int.toNat_natCast] at HT
        have hbk := hid b0
        clear b0 b1 b2
        go_wp2_with fail
        refine (rkind_any _ hbk.out.1 hbk.out.2 _).mono ?_
        rintro e w3 ⟨rfl, hb⟩
        have HQ := hid (show Row w3 go n (fun j => .bool (if k + 1 ≤ j then M.nd (M.strL l) j else M.rch (M.strL l) j)) ∧ Ro w3 g n (M.strI l) ∧ Below w.heap.size w w3 from ⟨HR.out.1.below hb, HR.out.2.1.below hb, (stp (hid HR.out.2.2) hb).out⟩)
        clear hb HR r0 co
        by_cases h11 : M.kind c = 11
        · have d1 : (M.kind c != 11) = false := by simpa using h11
          obtain ⟨hnd, hEn⟩ := HT.out.2 (M.isJa_iff.2 h11)
          have HN := hid hnd
          have r3 := HR3.out _ HQ.out.2.1
          clear h11 hnd HT HR3
          go_wp2
          go_loopw [6, 7] (fun av qv wr => ∃ q : Nat, k < q ∧ q ≤ k + 1 + d ∧ qv = .int .i64 q ∧ av = .bool (M.anN (M.strL l) k q) ∧ wr = w3) (fun _ qv _ => (k + 1 + d) - (intOf qv).toNat)
          case atStart => exact ⟨k + 1, by omega, by omega, by go_num, by rw [M.anN_start], rfl⟩
          case round =>
            obtain ⟨q, hq1, hq2, rfl, rfl, hwo⟩ := hrel
            subst hwo
            by_cases hql : q < k + 1 + d
            · have i3 : (q : Int) < (k : Int) + 1 + (d : Int) := by omega
              have hqn : q < n := by omega
              have i4 : (q : Int) < (n : Int) := by omega
              have cq := HQ.out.1.cell q hqn
              simp only [if_pos (show k + 1 ≤ q by omega)] at cq
              have hs := M.anN_succ (M.strL l) hq1
              obtain ⟨ab, hab⟩ : ∃ ab, M.anN (M.strL l) k q = ab := ⟨_, rfl⟩
              obtain ⟨nb, hnb⟩ : ∃ nb, M.nd (M.strL l) q = nb := ⟨_, rfl⟩
              rw [hab, hnb] at hs
              rw [hab]
              rw [hnb] at cq
              have HS := hid hs
              clear hs hab hnb
              cases ab with
              | true =>
                go_wp2
                go_roundw
                case rel => exact ⟨q + 1, by omega, by omega, by go_num, by rw [HS.out]; rfl, trivial⟩
                case measure => simp [intOf]; omega
              | false =>
                cases nb with
                | true =>
                  go_wp2
                  go_roundw
                  case rel => exact ⟨q + 1, by omega, by omega, by go_num, by rw [HS.out]; rfl, trivial⟩
                  case measure => simp [intOf]; omega
                | false =>
                  go_wp2
                  go_roundw
                  case rel => exact ⟨q + 1, by omega, by omega, by go_num, by rw [HS.out]; rfl, trivial⟩
                  case measure => simp [intOf]; omega
            · obtain rfl : q = k + 1 + d := by omega
              have i3 : ¬ ((k : Int) + 1 + (d : Int) < (k : Int) + 1 + (d : Int)) := by omega
              obtain ⟨ab, hab⟩ : ∃ ab, M.anN (M.strL l) k (k + 1 + d) = ab := ⟨_, rfl⟩
              rw [hab] at HN ⊢
              clear hab hql
              have co := HQ.out.1.cell k hlt
              have fo := HQ.out.1.froz k hlt
              have HF := hid (show Row (wr.setCell ⟨go, k, none⟩ (.bool ab)) go n (fun j => .bool (if k ≤ j then M.nd (M.strL l) j else M.rch (M.strL l) j)) ∧ Ro (wr.setCell ⟨go, k, none⟩ (.bool ab)) g n (M.strI l) ∧ Below w.heap.size w (wr.setCell ⟨go, k, none⟩ (.bool ab)) from
                ⟨(HQ.out.1.set k hlt _).congr (fun j hj => by
                  rw [HU.out _ HN.out j]
                  by_cases e : j = k
                  · rw [if_pos e, if_pos e]
                  · rw [if_neg e, if_neg e]), HQ.out.2.1.off (by omega), HQ.out.2.2.setCell (by simp; omega) _⟩)
              clear HQ
              go_wp2
              go_roundw
              case rel => exact ⟨k, by omega, by go_num, HF.out⟩
              case measure => simp [intOf]
        · have d1 : (M.kind c != 11) = true := by simpa using h11
          have HN := hid (HT.out.1 (M.isJa_not.2 h11))
          clear h11 HT HR3
          go_wp2
          go_roundw
          case rel => exact ⟨k, by omega, by go_num, HQ.out.1.congr (fun j hj => by
            rw [HU.out _ HN.out j]
            by_cases e : j = k
            · subst e; rw [if_pos rfl, if_neg (by omega), HC2.out]
            · rw [if_neg e]), HQ.out.2⟩
          case measure => simp [intOf]
    | zero =>
      have HF := hid (show Row wr go n (fun j => .bool (M.nd (M.strL l) j)) from HR.out.1.congr fun j hj => by rw [if_pos (Nat.zero_le _)])
      go_wp2
      go_ret
      exact ⟨go, rfl, HF.out, HR.out.2.2, by omega⟩
end Go.Proofs.Ytahaooghebmhnaa.B
