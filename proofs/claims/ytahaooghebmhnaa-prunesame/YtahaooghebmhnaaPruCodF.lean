/-
  The program's needed, and how many needed places are ahead of each, as walks over the Go text.
-/
import Derived.Test.YtahaooghebmhnaaPruCodA
namespace Go.Proofs.Ytahaooghebmhnaa.M
/-- what is needed, from the back on: nx is the next needed place behind i, or the length -/
def Nxt (s : List I) (k nx : Nat) : Prop := k ≤ nx ∧ nx ≤ s.length ∧ (∀ j, k ≤ j → j < nx → nd s j = false) ∧ (nx < s.length → nd s nx = true)
theorem nxt_end (s : List I) : Nxt s s.length s.length := ⟨Nat.le_refl _, Nat.le_refl _, fun j h1 h2 => by omega, fun h => by omega⟩
theorem nxt_yes {s : List I} {q : Nat} (hq : q < s.length) (h : nd s q = true) : Nxt s q q := ⟨Nat.le_refl _, Nat.le_of_lt hq, fun j h1 h2 => by omega, fun _ => h⟩
theorem nxt_no {s : List I} {q nx : Nat} (hn : Nxt s (q + 1) nx) (h : nd s q = false) : Nxt s q nx :=
  ⟨by have := hn.1; omega, hn.2.1, fun j h1 h2 => by
    by_cases e : j = q
    · subst e; exact h
    · exact hn.2.2.1 j (by omega) h2, hn.2.2.2⟩
theorem nd_plain {s : List I} {q : Nat} (hj : isJa (at0 s q) = false) : nd s q = rch s q := by
  rw [nd_eq, hj]; simp
theorem nd_gone {s : List I} {q nx : Nat} (hj : isJa (at0 s q) = true) (hn : Nxt s (q + 1) nx) (h : tgt s q ≤ nx) : nd s q = false := by
  cases e : nd s q with
  | false => rfl
  | true =>
    rcases (nd_iff.1 e).2 with h1 | ⟨k, h1, h2, h3⟩
    · rw [hj] at h1; cases h1
    · have := hn.2.2.1 k (by omega) (by omega)
      rw [this] at h3; cases h3
theorem nd_stays {s : List I} {q nx : Nat} (ht : tgt s q < s.length) (hn : Nxt s (q + 1) nx) (h : nx < tgt s q) : nd s q = rch s q := by
  rw [Bool.eq_iff_iff]
  constructor
  · intro e; exact (nd_iff.1 e).1
  · intro e; exact nd_iff.2 ⟨e, .inr ⟨nx, by have := hn.1; omega, h, hn.2.2.2 (by omega)⟩⟩
end Go.Proofs.Ytahaooghebmhnaa.M
namespace Go.Proofs.Ytahaooghebmhnaa.B
open Go.ChangeShapes Go.WideShapes Go.ChangeAt Go.RowKit
open Go.Sort hiding Below
set_option linter.unusedVariables false

/-- the row, as it is where the k first places are still to be looked at -/
def ndX (s : List M.I) (k j : Nat) : Bool := if j < k then M.rch s j else M.nd s j
theorem ndX_all (s : List M.I) (j : Nat) : ndX s 0 j = M.nd s j := by unfold ndX; rw [if_neg (by omega)]
theorem ndX_none {s : List M.I} {k j : Nat} (h : j < k) : ndX s k j = M.rch s j := if_pos h
theorem ndX_succ (s : List M.I) (q j : Nat) : ndX s q j = if j = q then M.nd s q else ndX s (q + 1) j := by
  unfold ndX
  by_cases e : j = q
  · subst e; rw [if_neg (by omega), if_pos rfl]
  · rw [if_neg e]
    by_cases e2 : j < q
    · rw [if_pos e2, if_pos (by omega)]
    · rw [if_neg e2, if_neg (by omega)]

set_option maxHeartbeats 3200000 in
set_option maxRecDepth 1000000 in
theorem cneeded (b o n cap : Nat) (l : List M.I) (hln : l.length = n) (hn : n ≤ 4096) (ok : ∀ i ∈ l, M.okI i) (hr : M.right l) (w : World) (hl : Ly w b o l) :
    Calls Try.prog 25 #[.slice (some ⟨b, o, none⟩) n cap] w fun e w' => ∃ g, e = .returned (.slice (some ⟨g, 0, none⟩) n n) ∧ Row w' g n (fun j => .bool (M.nd l j)) ∧ Below w.heap.size w w' ∧ w.heap.size ≤ g := by
  have HC := hid (gReached b o n cap l hln hn ok hr w hl)
  have HH := hid (And.intro hln (And.intro ok (And.intro hl hr)))
  have hbl : b < w.heap.size := hl.1
  clear hln ok hl hr
  go_enter Try.func25, Try.ntmps25
  go_wp2_with fail
  refine HC.out.mono ?_
  rintro e w1 ⟨g, rfl, hR, hb, hg⟩
  have HM := hid (show Row w1 g n (fun j => .bool (ndX l n j)) ∧ Below w.heap.size w w1 ∧ M.Nxt l n n from ⟨hR.congr fun j hj => by rw [ndX_none hj], hb, by have := M.nxt_end l; rwa [HH.out.1] at this⟩)
  clear hR hb HC
  go_wp2
  go_loopw [4, 5] (fun nv iv wr => ∃ (k nx : Nat) (v : Int), k ≤ n ∧ nx ≤ n ∧ nv = .int .i64 nx ∧ iv = .int .i64 v ∧ v + 1 = k ∧ Hid (Row wr g n (fun j => .bool (ndX l k j)) ∧ Below w.heap.size w wr ∧ M.Nxt l k nx)) (fun _ iv _ => (intOf iv + 1).toNat)
  case atStart => exact ⟨n, n, (n : Int) - 1, Nat.le_refl _, Nat.le_refl _, rfl, rfl, by omega, HM.out⟩
  case round =>
    clear HM
    obtain ⟨k, nx, v, hkn, hxn, rfl, rfl, hvk, HR⟩ := hrel
    rcases k with _ | q
    · obtain rfl : v = -1 := by omega
      have HF := hid (show Row wr g n (fun j => .bool (M.nd l j)) from HR.out.1.congr fun j _ => by rw [ndX_all])
      go_wp2
      go_ret
      exact ⟨g, rfl, HF.out, HR.out.2.1, hg⟩
    · obtain rfl : v = (q : Int) := by omega
      have hqn : q < n := by omega
      have i1 : (q : Int) < (n : Int) := by omega
      have hql : q < l.length := by rw [HH.out.1]; exact hqn
      clear hvk
      obtain ⟨x, hx⟩ : ∃ x, l[q] = x := ⟨_, rfl⟩
      have h0x : M.at0 l q = x := by rw [M.at0_eq hql]; exact hx
      have hok : M.okI x := hx ▸ HH.out.2.1 _ (List.getElem_mem hql)
      have HQ := hid (fun W (hb : Below wr.heap.size wr W) => (by rw [← hx]; exact (HH.out.2.2.1.below (stp (hid HR.out.2.1) hb).out).2 q hql : LiesAt W b o q x))
      have HS := hid (ndX_succ l q)
      have HN1 := hid (show M.isJa x = false → M.nd l q = M.rch l q from fun h => M.nd_plain (by rw [h0x]; exact h))
      have HN2 := hid (show M.isJa x = true → q + 1 + x.2.2.2.toNat ≤ nx → M.nd l q = false from fun h h2 => M.nd_gone (by rw [h0x]; exact h) HR.out.2.2 (by unfold M.tgt; rw [h0x]; exact h2))
      have HN3 := hid (show M.isJa x = true → nx < q + 1 + x.2.2.2.toNat → M.nd l q = M.rch l q from fun h h2 => by
        have h' : M.isJa (M.at0 l q) = true := by rw [h0x]; exact h
        exact M.nd_stays (M.tgt_lt HH.out.2.2.2 HH.out.2.1 h') HR.out.2.2 (by unfold M.tgt; rw [h0x]; exact h2))
      clear hx h0x
      obtain ⟨c, jt, jf, d⟩ := x
      obtain ⟨_, _, _, b3⟩ := hok
      simp only at b3
      obtain ⟨d, rfl⟩ : ∃ k' : Nat, d = k' := ⟨d.toNat, by omega⟩
      simp only [Int.toNat_natCast] at HN2 HN3
      obtain ⟨q0, q1, q2, q3⟩ := HQ.out wr (Below.refl _ _)
      simp only at q0 q1 q2 q3
      have hqg : q < n := hqn
      cases hj : M.isJa (c, jt, jf, (d : Int)) with
      | false =>
        have HJ := hid (cisja c jt jf d false hj)
        have HE := hid (HN1.out hj)
        clear hj HN1 HN2 HN3
        go_wp2_with fail
        refine (HJ.out _).mono ?_
        rintro e w2 ⟨rfl, hb⟩
        have HR2 := hid (show Row w2 g n (fun j => .bool (ndX l (q + 1) j)) ∧ Below w.heap.size w w2 ∧ M.Nxt l (q + 1) nx from ⟨HR.out.1.below hb, (stp (hid HR.out.2.1) hb).out, HR.out.2.2⟩)
        clear hb q0 q1 q2 q3 HQ HR HJ
        have cr := HR2.out.1.cell q hqn
        simp only [ndX_none (Nat.lt_succ_self q)] at cr
        cases hc : M.rch l q with
        | true =>
          rw [hc] at cr HE
          have HF := hid (show Row w2 g n (fun j => .bool (ndX l q j)) ∧ Below w.heap.size w w2 ∧ M.Nxt l q q from ⟨HR2.out.1.congr fun j hj => by
            rw [HS.out j]
            by_cases e : j = q
            · subst e; rw [if_pos rfl, ndX_none (Nat.lt_succ_self _), HE.out, hc]
            · rw [if_neg e], HR2.out.2.1, M.nxt_yes hql HE.out⟩)
          clear HR2 HS HE hc
          go_wp2
          go_roundw
          case rel => exact ⟨q, q, (q : Int) - 1, by omega, by omega, rfl, by go_num, by omega, HF.out⟩
          case measure => simp [intOf]
        | false =>
          rw [hc] at cr HE
          have HF := hid (show Row w2 g n (fun j => .bool (ndX l q j)) ∧ Below w.heap.size w w2 ∧ M.Nxt l q nx from ⟨HR2.out.1.congr fun j hj => by
            rw [HS.out j]
            by_cases e : j = q
            · subst e; rw [if_pos rfl, ndX_none (Nat.lt_succ_self _), HE.out, hc]
            · rw [if_neg e], HR2.out.2.1, M.nxt_no HR2.out.2.2 HE.out⟩)
          clear HR2 HS HE hc
          go_wp2
          go_roundw
          case rel => exact ⟨q, nx, (q : Int) - 1, by omega, hxn, rfl, by go_num, by omega, HF.out⟩
          case measure => simp [intOf]
      | true =>
        have HJ := hid (cisja c jt jf d true hj)
        have HT := hid (fun W (h : LiesAt W b o q (c, jt, jf, (d : Int))) => ctarget b o n cap q hn hqn c jt jf d b3.2 W h)
        obtain ⟨m, hm⟩ : ∃ m, q + 1 + d = m := ⟨_, rfl⟩
        rw [hm] at HN2 HN3 HT
        by_cases hge : m ≤ nx
        · have d2 : decide (m ≤ nx) = true := decide_eq_true hge
          have HE := hid (HN2.out hj hge)
          clear hj HN1 HN2 HN3 hge hm b3
          go_wp2_with fail
          refine (HJ.out _).mono ?_
          rintro e w2 ⟨rfl, hb⟩
          have HL := hid (HQ.out _ hb)
          have HR2 := hid (show Row w2 g n (fun j => .bool (ndX l (q + 1) j)) ∧ Below w.heap.size w w2 ∧ M.Nxt l (q + 1) nx from ⟨HR.out.1.below hb, (stp (hid HR.out.2.1) hb).out, HR.out.2.2⟩)
          clear hb q0 q1 q2 q3 HQ HR HJ
          go_wp2_with fail
          refine (HT.out _ HL.out).mono ?_
          rintro e w3 ⟨rfl, rfl⟩
          have cr := HR2.out.1.cell q hqn
          have fr := HR2.out.1.froz q hqn
          obtain ⟨V, hV⟩ : ∃ V, w3.setCell ⟨g, q, none⟩ (.bool false) = V := ⟨_, rfl⟩
          have HF := hid (show Row V g n (fun j => .bool (ndX l q j)) ∧ Below w.heap.size w V ∧ M.Nxt l q nx from by
            rw [← hV]
            exact ⟨(HR2.out.1.set q hqn (.bool false)).congr fun j hj => by
              rw [HS.out j]
              by_cases e : j = q
              · subst e; rw [if_pos rfl, if_pos rfl, HE.out]
              · rw [if_neg e, if_neg e], HR2.out.2.1.setCell hg _, M.nxt_no HR2.out.2.2 HE.out⟩)
          have cv := HF.out.1.cell q hqn
          have ev : ndX l q q = false := by unfold ndX; rw [if_neg (by omega)]; exact HE.out
          simp only [ev] at cv
          clear HR2 HS HE ev HL HT
          go_wp2
          go_roundw
          case rel => exact ⟨q, nx, (q : Int) - 1, by omega, hxn, rfl, by go_num, by omega, HF.out⟩
          case measure => simp [intOf]
        · have d2 : decide (m ≤ nx) = false := decide_eq_false hge
          have HE := hid (HN3.out hj (by omega))
          clear hj HN1 HN2 HN3 hge hm b3
          go_wp2_with fail
          refine (HJ.out _).mono ?_
          rintro e w2 ⟨rfl, hb⟩
          have HL := hid (HQ.out _ hb)
          have HR2 := hid (show Row w2 g n (fun j => .bool (ndX l (q + 1) j)) ∧ Below w.heap.size w w2 ∧ M.Nxt l (q + 1) nx from ⟨HR.out.1.below hb, (stp (hid HR.out.2.1) hb).out, HR.out.2.2⟩)
          clear hb q0 q1 q2 q3 HQ HR HJ
          go_wp2_with fail
          refine (HT.out _ HL.out).mono ?_
          rintro e w3 ⟨rfl, rfl⟩
          have cr := HR2.out.1.cell q hqn
          simp only [ndX_none (Nat.lt_succ_self q)] at cr
          clear HL HT
          cases hc : M.rch l q with
          | true =>
            rw [hc] at cr HE
            have HF := hid (show Row w3 g n (fun j => .bool (ndX l q j)) ∧ Below w.heap.size w w3 ∧ M.Nxt l q q from ⟨HR2.out.1.congr fun j hj => by
              rw [HS.out j]
              by_cases e : j = q
              · subst e; rw [if_pos rfl, ndX_none (Nat.lt_succ_self _), HE.out, hc]
              · rw [if_neg e], HR2.out.2.1, M.nxt_yes hql HE.out⟩)
            clear HR2 HS HE hc
            go_wp2
            go_roundw
            case rel => exact ⟨q, q, (q : Int) - 1, by omega, by omega, rfl, by go_num, by omega, HF.out⟩
            case measure => simp [intOf]
          | false =>
            rw [hc] at cr HE
            have HF := hid (show Row w3 g n (fun j => .bool (ndX l q j)) ∧ Below w.heap.size w w3 ∧ M.Nxt l q nx from ⟨HR2.out.1.congr fun j hj => by
              rw [HS.out j]
              by_cases e : j = q
              · subst e; rw [if_pos rfl, ndX_none (Nat.lt_succ_self _), HE.out, hc]
              · rw [if_neg e], HR2.out.2.1, M.nxt_no HR2.out.2.2 HE.out⟩)
            clear HR2 HS HE hc
            go_wp2
            go_roundw
            case rel => exact ⟨q, nx, (q : Int) - 1, by omega, hxn, rfl, by go_num, by omega, HF.out⟩
            case measure => simp [intOf]

set_option maxHeartbeats 1600000 in
set_option maxRecDepth 1000000 in
theorem ccounts (g n cap : Nat) (P : Nat → Bool) (hn : n ≤ 4096) (w : World) (hR : Row w g n (fun j => .bool (P j))) :
    Calls Try.prog 36 #[.slice (some ⟨g, 0, none⟩) n cap] w fun e w' => ∃ h, e = .returned (.slice (some ⟨h, 0, none⟩) n n) ∧ Row w' h n (fun j => .int .i64 ((M.cnP P j : Nat) : Int)) ∧ Below w.heap.size w w' ∧ w.heap.size ≤ h := by
  obtain ⟨i0, hi, hz0, hz1, hz2⟩ := info_parts infoi
  have HH := hid hR
  have hgl : g < w.heap.size := hR.lt
  clear hR
  go_enter Try.func36, Try.ntmps36
  go_wp2_with (at_make; refine wpList_make_full _ rfl _ _ 40 rfl w.heap.size 3 i0 (.int .i64 0) 1 Try.underlying40 hi hz0 hz1 .i64 .i64 n n n rfl rfl rfl rfl ?c1 ?c2 (Nat.le_refl _) ?_)
  case c1 => rw [hz2]; omega
  case c2 => unfold maxLen; omega
  intro wm hown hgrow
  have hbm : Below w.heap.size w wm := (Below.refl _ _).grown hgrow (Nat.le_refl _) (by intro k hk; cases hk)
  have HM := hid (show Row wm w.heap.size n (fun j => .int .i64 (((if j < 0 then M.cnP P j else 0 : Nat)) : Int)) ∧ Below w.heap.size w wm from ⟨(Row.of_own hown (fun j hj => made_get (.int .i64 0) n j hj) (hown.lt _ rfl).2).congr fun j _ => rfl, hbm⟩)
  clear hown hgrow hbm
  go_wp2
  go_loopw [4, 12] (fun nv iv wr => ∃ k m : Nat, k ≤ n ∧ m ≤ n ∧ nv = .int .i64 m ∧ iv = .int .i64 k ∧ Hid (M.cnP P k = m ∧ Row wr w.heap.size n (fun j => .int .i64 (((if j < k then M.cnP P j else 0 : Nat)) : Int)) ∧ Below w.heap.size w wr)) (fun _ iv _ => n - (intOf iv).toNat)
  case atStart => exact ⟨0, 0, Nat.zero_le _, Nat.zero_le _, rfl, rfl, rfl, HM.out⟩
  case round =>
    clear HM
    obtain ⟨k, m, hk, hmn, rfl, rfl, HR⟩ := hrel
    by_cases hlt : k < n
    · have i2 : (k : Int) < (n : Int) := by omega
      have cr := (HH.out.far HR.out.2.2 hgl).cell k hlt
      have c4 := HR.out.2.1.cell k hlt
      have f4 := HR.out.2.1.froz k hlt
      obtain ⟨V, hV⟩ : ∃ V, wr.setCell ⟨w.heap.size, k, none⟩ (.int .i64 (m : Int)) = V := ⟨_, rfl⟩
      have HF := hid (show Row V w.heap.size n (fun j => .int .i64 (((if j < k + 1 then M.cnP P j else 0 : Nat)) : Int)) ∧ Below w.heap.size w V from by
        rw [← hV]
        exact ⟨(HR.out.2.1.set k hlt (.int .i64 (m : Int))).congr fun j hj => by
          by_cases e : j = k
          · subst e; rw [if_pos rfl, if_pos (by omega), HR.out.1]
          · rw [if_neg e]
            by_cases e2 : j < k
            · rw [if_pos e2, if_pos (by omega)]
            · rw [if_neg e2, if_neg (by omega)], HR.out.2.2.setCell (Nat.le_refl _) _⟩)
      have hmk : m ≤ k := by
        have := M.cnP_near P (Nat.zero_le k)
        have e : M.cnP P 0 = 0 := rfl
        have := HR.out.1
        omega
      have HC := hid (show M.cnP P (k + 1) = m + (if P k = true then 1 else 0) from by rw [M.cnP_succ, HR.out.1])
      clear HR
      cases hc : P k with
      | true =>
        simp only [hc] at cr HC
        have HC2 := hid (show M.cnP P (k + 1) = m + 1 from HC.out)
        clear HC hc
        go_wp2
        go_roundw
        case rel => exact ⟨k + 1, m + 1, by omega, by omega, by go_num, by go_num, HC2.out, HF.out⟩
        case measure => simp [intOf]; omega
      | false =>
        simp only [hc] at cr HC
        have HC2 := hid (show M.cnP P (k + 1) = m from HC.out)
        clear HC hc
        go_wp2
        go_roundw
        case rel => exact ⟨k + 1, m, by omega, by omega, rfl, by go_num, HC2.out, HF.out⟩
        case measure => simp [intOf]; omega
    · obtain rfl : k = n := by omega
      have HF := hid (show Row wr w.heap.size k (fun j => .int .i64 ((M.cnP P j : Nat) : Int)) ∧ Below w.heap.size w wr from ⟨HR.out.2.1.congr fun j hj => by rw [if_pos hj], HR.out.2.2⟩)
      clear HR
      go_wp2
      go_ret
      exact ⟨w.heap.size, rfl, HF.out.1, HF.out.2, Nat.le_refl _⟩
end Go.Proofs.Ytahaooghebmhnaa.B
