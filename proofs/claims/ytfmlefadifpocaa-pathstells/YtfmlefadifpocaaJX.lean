/-
  The program's needed, and how many needed places are ahead of each, as walks over the Go text.
-/
import Derived.Test.YtfmlefadifpocaaJV
import Derived.Test.YtfmlefadifpocaaPruCodE
import Derived.Test.YtfmlefadifpocaaJS
import Derived.Test.YtfmlefadifpocaaJT
namespace Go.Proofs.Ytfmlefadifpocaa.M
/-- what is needed, from the back on: nx is the next needed place behind i, or the length -/
def Nxt (s : List I) (k nx : Nat) : Prop := k ≤ nx ∧ nx ≤ s.length ∧ (∀ j, k ≤ j → j < nx → nd s j = false) ∧ (nx < s.length → nd s nx = true)
theorem nxt_end (s : List I) : Nxt s s.length s.length := ⟨Nat.le_refl _, Nat.le_refl _, fun j h1 h2 => by omega, fun h => by omega⟩
theorem nxt_yes {s : List I} {q : Nat} (hq : q < s.length) (h : nd s q = true) : Nxt s q q := ⟨Nat.le_refl _, Nat.le_of_lt hq, fun j h1 h2 => by omega, fun _ => h⟩
theorem nxt_no {s : List I} {q nx : Nat} (hn : Nxt s (q + 1) nx) (h : nd s q = false) : Nxt s q nx :=
  ⟨by have := hn.1; omega, hn.2.1, fun j h1 h2 => by
    by_cases e : j = q
    · subst e; exact h
    · exact hn.2.2.1 j (by omega) h2, hn.2.2.2⟩
theorem nd_plain {s : List I} {q : Nat} (hj : isJa (at0 s q) = false) : nd s q = rch s q := by
  rw [nd_eq, hj]; simp
theorem nd_gone {s : List I} {q nx : Nat} (hj : isJa (at0 s q) = true) (hn : Nxt s (q + 1) nx) (h : tgt s q ≤ nx) : nd s q = false := by
  cases e : nd s q with
  | false => rfl
  | true =>
    rcases (nd_iff.1 e).2 with h1 | ⟨k, h1, h2, h3⟩
    · rw [hj] at h1; cases h1
    · have := hn.2.2.1 k (by omega) (by omega)
      rw [this] at h3; cases h3
theorem nd_stays {s : List I} {q nx : Nat} (ht : tgt s q < s.length) (hn : Nxt s (q + 1) nx) (h : nx < tgt s q) : nd s q = rch s q := by
  rw [Bool.eq_iff_iff]
  constructor
  · intro e; exact (nd_iff.1 e).1
  · intro e; exact nd_iff.2 ⟨e, .inr ⟨nx, by have := hn.1; omega, h, hn.2.2.2 (by omega)⟩⟩
end Go.Proofs.Ytfmlefadifpocaa.M
namespace Go.Proofs.Ytfmlefadifpocaa.B
open Go.ChangeShapes Go.WideShapes Go.ChangeAt Go.RowKit
open Go.Sort hiding Below
set_option linter.unusedVariables false

/-- the row, as it is where the k first places are still to be looked at -/
def ndX (s : List M.I) (k j : Nat) : Bool := if j < k then M.rch s j else M.nd s j
theorem ndX_all (s : List M.I) (j : Nat) : ndX s 0 j = M.nd s j := by unfold ndX; rw [if_neg (by omega)]
theorem ndX_none {s : List M.I} {k j : Nat} (h : j < k) : ndX s k j = M.rch s j := if_pos h
theorem ndX_succ (s : List M.I) (q j : Nat) : ndX s q j = if j = q then M.nd s q else ndX s (q + 1) j := by
  unfold ndX
  by_cases e : j = q
  · subst e; rw [if_neg (by omega), if_pos rfl]
  · rw [if_neg e]
    by_cases e2 : j < q
    · rw [if_pos e2, if_pos (by omega)]
    · rw [if_neg e2, if_neg (by omega)]

set_option maxHeartbeats 3200000 in
set_option maxRecDepth 1000000 in
theorem cneeded (b o n cap : Nat) (l : List M.I) (hln : l.length = n) (hn : n ≤ 4096) (ok : ∀ i ∈ l, M.okI i) (hr : M.right l) (w : World) (hl : Ly w b o l) :
    Calls Try.prog 32 #[.slice (some ⟨b, o, none⟩) n cap] w fun e w' => ∃ g, e = .returned (.slice (some ⟨g, 0, none⟩) n n) ∧ Row w' g n (fun j => .bool (M.nd l j)) ∧ Below w.heap.size w w' ∧ w.heap.size ≤ g := by
  have HC := hid (gReached b o n cap l hln hn ok hr w hl)
  have HH := hid (And.intro hln (And.intro ok (And.intro hl hr)))
  have hbl : b < w.heap.size := hl.1
  clear hln ok hl hr
  go_enter Try.func32, Try.ntmps32
  go_wp2_with fail
  refine HC.out.mono ?_
  rintro e w1 ⟨g, rfl, hR, hb, hg⟩
  have HM := hid (show Row w1 g n (fun j => .bool (ndX l n j)) ∧ Below w.heap.size w w1 ∧ M.Nxt l n n from ⟨hR.congr fun j hj => by rw [ndX_none hj], hb, by have := M.nxt_end l; rwa [HH.out.1] at this⟩)
  clear hR hb HC
  go_wp2
  go_loopw [4, 5] (fun nv iv wr => ∃ (k nx : Nat) (v : Int), k ≤ n ∧ nx ≤ n ∧ nv = .int .i64 nx ∧ iv = .int .i64 v ∧ v + 1 = k ∧ Hid (Row wr g n (fun j => .bool (ndX l k j)) ∧ Below w.heap.size w wr ∧ M.Nxt l k nx)) (fun _ iv _ => (intOf iv + 1).toNat)
  case atStart => exact ⟨n, n, (n : Int) - 1, Nat.le_refl _, Nat.le_refl _, rfl, rfl, by omega, HM.out⟩
  case round =>
    clear HM
    obtain ⟨k, nx, v, hkn, hxn, rfl, rfl, hvk, HR⟩ := hrel
    rcases k with _ | q
    · obtain rfl : v = -1 := by omega
      have HF := hid (show Row wr g n (fun j => .bool (M.nd l j)) from HR.out.1.congr fun j _ => by rw [ndX_all])
      go_wp2
      go_ret
      exact ⟨g, rfl, HF.out, HR.out.2.1, hg⟩
    · obtain rfl : v = (q : Int) := by omega
      have hqn : q < n := by omega
      have i1 : (q : Int) < (n : Int) := by omega
      have hql : q < l.length := by rw [HH.out.1]; exact hqn
      clear hvk
      obtain ⟨x, hx⟩ : ∃ x, l[q] = x := ⟨_, rfl⟩
      have h0x : M.at0 l q = x := by rw [M.at0_eq hql]; exact hx
      have hok : M.okI x := hx ▸ HH.out.2.1 _ (List.getElem_mem hql)
      have HQ := hid (fun W (hb : Below wr.heap.size wr W) => (by rw [← hx]; exact (HH.out.2.2.1.below (stp (hid HR.out.2.1) hb).out).2 q hql : LiesAt W b o q x))
      have HS := hid (ndX_succ l q)
      have HN1 := hid (show M.isJa x = false → M.nd l q = M.rch l q from fun h => M.nd_plain (by rw [h0x]; exact h))
      have HN2 := hid (show M.isJa x = true → q + 1 + x.2.2.2.toNat ≤ nx → M.nd l q = false from fun h h2 => M.nd_gone (by rw [h0x]; exact h) HR.out.2.2 (by unfold M.tgt; rw [h0x]; exact h2))
      have HN3 := hid (show M.isJa x = true → nx < q + 1 + x.2.2.2.toNat → M.nd l q = M.rch l q from fun h h2 => by
        have h' : M.isJa (M.at0 l q) = true := by rw [h0x]; exact h
        exact M.nd_stays (M.tgt_lt HH.out.2.2.2 HH.out.2.1 h') HR.out.2.2 (by unfold M.tgt; rw [h0x]; exact h2))
      clear hx h0x
      obtain ⟨c, jt, jf, d⟩ := x
      obtain ⟨_, _, _, b3⟩ := hok
      simp only at b3
      obtain ⟨d, rfl⟩ : ∃ k' : Nat, d = k' := ⟨d.toNat, by omega⟩
      simp only [Int.toNat_natCast] at HN2 HN3
      obtain ⟨q0, q1, q2, q3⟩ := HQ.out wr (Below.refl _ _)
      simp only at q0 q1 q2 q3
      have hqg : q < n := hqn
      cases hj : M.isJa (c, jt, jf, (d : Int)) with
      | false =>
        have HJ := hid (cisja c jt jf d false hj)
        have HE := hid (HN1.out hj)
        clear hj HN1 HN2 HN3
        go_wp2_with fail
        refine (HJ.out _).mono ?_
        rintro e w2 ⟨rfl, hb⟩
        have HR2 := hid (show Row w2 g n (fun j => .bool (ndX l (q + 1) j)) ∧ Below w.heap.size w w2 ∧ M.Nxt l (q + 1) nx from ⟨HR.out.1.below hb, (stp (hid HR.out.2.1) hb).out, HR.out.2.2⟩)
        clear hb q0 q1 q2 q3 HQ HR HJ
        have cr := HR2.out.1.cell q hqn
        simp only [ndX_none (Nat.lt_succ_self q)] at cr
        cases hc : M.rch l q with
        | true =>
          rw [hc] at cr HE
          have HF := hid (show Row w2 g n (fun j => .bool (ndX l q j)) ∧ Below w.heap.size w w2 ∧ M.Nxt l q q from ⟨HR2.out.1.congr fun j hj => by
            rw [HS.out j]
            by_cases e : j = q
            · subst e; rw [if_pos rfl, ndX_none (Nat.lt_succ_self _), HE.out, hc]
            · rw [if_neg e], HR2.out.2.1, M.nxt_yes hql HE.out⟩)
          clear HR2 HS HE hc
          go_wp2
          go_roundw
          case rel => exact ⟨q, q, (q : Int) - 1, by omega, by omega, rfl, by go_num, by omega, HF.out⟩
          case measure => simp [intOf]
        | false =>
          rw [hc] at cr HE
          have HF := hid (show Row w2 g n (fun j => .bool (ndX l q j)) ∧ Below w.heap.size w w2 ∧ M.Nxt l q nx from ⟨HR2.out.1.congr fun j hj => by
            rw [HS.out j]
            by_cases e : j = q
            · subst e; rw [if_pos rfl, ndX_none (Nat.lt_succ_self _), HE.out, hc]
            · rw [if_neg e], HR2.out.2.1, M.nxt_no HR2.out.2.2 HE.out⟩)
          clear HR2 HS HE hc
          go_wp2
          go_roundw
          case rel => exact ⟨q, nx, (q : Int) - 1, by omega, hxn, rfl, by go_num, by omega, HF.out⟩
          case measure => simp [intOf]
      | true =>
        have HJ := hid (cisja c jt jf d true hj)
        have HT := hid (fun W (h : LiesAt W b o q (c, jt, jf, (d : Int))) => ctarget b o n cap q hn hqn c jt jf d b3.2 W h)
        obtain ⟨m, hm⟩ : ∃ m, q + 1 + d = m := ⟨_, rfl⟩
        rw [hm] at HN2 HN3 HT
        by_cases hge : m ≤ nx
        · have d2 : decide (m ≤ nx) = true := decide_eq_true hge
          have HE := hid (HN2.out hj hge)
          clear hj HN1 HN2 HN3 hge hm b3
          go_wp2_with fail
          refine (HJ.out _).mono ?_
          rintro e w2 ⟨rfl, hb⟩
          have HL := hid (HQ.out _ hb)
          have HR2 := hid (show Row w2 g n (fun j => .bool (ndX l (q + 1) j)) ∧ Below w.heap.size w w2 ∧ M.Nxt l (q + 1) nx from ⟨HR.out.1.below hb, (stp (hid HR.out.2.1) hb).out, HR.out.2.2⟩)
          clear hb q0 q1 q2 q3 HQ HR HJ
          go_wp2_with fail
          refine (HT.out _ HL.out).mono ?_
          rintro e w3 ⟨rfl, rfl⟩
          have cr := HR2.out.1.cell q hqn
          have fr := HR2.out.1.froz q hqn
          obtain ⟨V, hV⟩ : ∃ V, w3.setCell ⟨g, q, none⟩ (.bool false) = V := ⟨_, rfl⟩
          have HF := hid (show Row V g n (fun j => .bool (ndX l q j)) ∧ Below w.heap.size w V ∧ M.Nxt l q nx from by
            rw [← hV]
            exact ⟨(HR2.out.1.set q hqn (.bool false)).congr fun j hj => by
              rw [HS.out j]
              by_cases e : j = q
              · subst e; rw [if_pos rfl, if_pos rfl, HE.out]
              · rw [if_neg e, if_neg e], HR2.out.2.1.setCell hg _, M.nxt_no HR2.out.2.2 HE.out⟩)
          have cv := HF.out.1.cell q hqn
          have ev : ndX l q q = false := by unfold ndX; rw [if_neg (by omega)]; exact HE.out
          simp only [ev] at cv
          clear HR2 HS HE ev HL HT
          go_wp2
          go_roundw
          case rel => exact ⟨q, nx, (q : Int) - 1, by omega, hxn, rfl, by go_num, by omega, HF.out⟩
          case measure => simp [intOf]
        · have d2 : decide (m ≤ nx) = false := decide_eq_false hge
          have HE := hid (HN3.out hj (by omega))
          clear hj HN1 HN2 HN3 hge hm b3
          go_wp2_with fail
          refine (HJ.out _).mono ?_
          rintro e w2 ⟨rfl, hb⟩
          have HL := hid (HQ.out _ hb)
          have HR2 := hid (show Row w2 g n (fun j => .bool (ndX l (q + 1) j)) ∧ Below w.heap.size w w2 ∧ M.Nxt l (q + 1) nx from ⟨HR.out.1.below hb, (stp (hid HR.out.2.1) hb).out, HR.out.2.2⟩)
          clear hb q0 q1 q2 q3 HQ HR HJ
          go_wp2_with fail
          refine (HT.out _ HL.out).mono ?_
          rintro e w3 ⟨rfl, rfl⟩
          have cr := HR2.out.1.cell q hqn
          simp only [ndX_none (Nat.lt_succ_self q)] at cr
          clear HL HT
          cases hc : M.rch l q with
          | true =>
            rw [hc] at cr HE
            have HF := hid (show Row w3 g n (fun j => .bool (ndX l q j)) ∧ Below w.heap.size w w3 ∧ M.Nxt l q q from ⟨HR2.out.1.congr fun j hj => by
              rw [HS.out j]
              by_cases e : j = q
              · subst e; rw [if_pos rfl, ndX_none (Nat.lt_succ_self _), HE.out, hc]
              · rw [if_neg e], HR2.out.2.1, M.nxt_yes hql HE.out⟩)
            clear HR2 HS HE hc
            go_wp2
            go_roundw
            case rel => exact ⟨q, q, (q : Int) - 1, by omega, by omega, rfl, by go_num, by omega, HF.out⟩
            case measure => simp [intOf]
          | false =>
            rw [hc] at cr HE
            have HF := hid (show Row w3 g n (fun j => .bool (ndX l q j)) ∧ Below w.heap.size w w3 ∧ M.Nxt l q nx from ⟨HR2.out.1.congr fun j hj => by
              rw [HS.out j]
              by_cases e : j = q
              · subst e; rw [if_pos rfl, ndX_none (Nat.lt_succ_self _), HE.out, hc]
              · rw [if_neg e], HR2.out.2.1, M.nxt_no HR2.out.2.2 HE.out⟩)
            clear HR2 HS HE hc
            go_wp2
            go_roundw
            case rel => exact ⟨q, nx, (q : Int) - 1, by omega, hxn, rfl, by go_num, by omega, HF.out⟩
            case measure => simp [intOf]

set_option maxHeartbeats 1600000 in
set_option maxRecDepth 1000000 in
theorem ccounts (g n cap : Nat) (P : Nat → Bool) (hn : n ≤ 4096) (w : World) (hR : Row w g n (fun j => .bool (P j))) :
    Calls Try.prog 33 #[.slice (some ⟨g, 0, none⟩) n cap] w fun e w' => ∃ h, e = .returned (.slice (some ⟨h, 0, none⟩) n n) ∧ Row w' h n (fun j => .int .i64 ((M.cnP P j : Nat) : Int)) ∧ Below w.heap.size w w' ∧ w.heap.size ≤ h := by
  obtain ⟨i0, hi, hz0, hz1, hz2⟩ := info_parts infoi
  have HH := hid hR
  have hgl : g < w.heap.size := hR.lt
  clear hR
  go_enter Try.func33, Try.ntmps33
  go_wp2_with (at_make; refine wpList_make_full _ rfl _ _ 44 rfl w.heap.size 3 i0 (.int .i64 0) 1 Try.underlying44 hi hz0 hz1 .i64 .i64 n n n rfl rfl rfl rfl ?c1 ?c2 (Nat.le_refl _) ?_)
  case c1 => rw [hz2]; omega
  case c2 => unfold maxLen; omega
  intro wm hown hgrow
  have hbm : Below w.heap.size w wm := (Below.refl _ _).grown hgrow (Nat.le_refl _) (by intro k hk; cases hk)
  have HM := hid (show Row wm w.heap.size n (fun j => .int .i64 (((if j < 0 then M.cnP P j else 0 : Nat)) : Int)) ∧ Below w.heap.size w wm from ⟨(Row.of_own hown (fun j hj => made_get (.int .i64 0) n j hj) (hown.lt _ rfl).2).congr fun j _ => rfl, hbm⟩)
  clear hown hgrow hbm
  go_wp2
  go_loopw [4, 12] (fun nv iv wr => ∃ k m : Nat, k ≤ n ∧ m ≤ n ∧ nv = .int .i64 m ∧ iv = .int .i64 k ∧ Hid (M.cnP P k = m ∧ Row wr w.heap.size n (fun j => .int .i64 (((if j < k then M.cnP P j else 0 : Nat)) : Int)) ∧ Below w.heap.size w wr)) (fun _ iv _ => n - (intOf iv).toNat)
  case atStart => exact ⟨0, 0, Nat.zero_le _, Nat.zero_le _, rfl, rfl, rfl, HM.out⟩
  case round =>
    clear HM
    obtain ⟨k, m, hk, hmn, rfl, rfl, HR⟩ := hrel
    by_cases hlt : k < n
    · have i2 : (k : Int) < (n : Int) := by omega
      have cr := (HH.out.far HR.out.2.2 hgl).cell k hlt
      have c4 := HR.out.2.1.cell k hlt
      have f4 := HR.out.2.1.froz k hlt
      obtain ⟨V, hV⟩ : ∃ V, wr.setCell ⟨w.heap.size, k, none⟩ (.int .i64 (m : Int)) = V := ⟨_, rfl⟩
      have HF := hid (show Row V w.heap.size n (fun j => .int .i64 (((if j < k + 1 then M.cnP P j else 0 : Nat)) : Int)) ∧ Below w.heap.size w V from by
        rw [← hV]
        exact ⟨(HR.out.2.1.set k hlt (.int .i64 (m : Int))).congr fun j hj => by
          by_cases e : j = k
          · subst e; rw [if_pos rfl, if_pos (by omega), HR.out.1]
          · rw [if_neg e]
            by_cases e2 : j < k
            · rw [if_pos e2, if_pos (by omega)]
            · rw [if_neg e2, if_neg (by omega)], HR.out.2.2.setCell (Nat.le_refl _) _⟩)
      have hmk : m ≤ k := by
        have := M.cnP_near P (Nat.zero_le k)
        have e : M.cnP P 0 = 0 := rfl
        have := HR.out.1
        omega
      have HC := hid (show M.cnP P (k + 1) = m + (if P k = true then 1 else 0) from by rw [M.cnP_succ, HR.out.1])
      clear HR
      cases hc : P k with
      | true =>
        simp only [hc] at cr HC
        have HC2 := hid (show M.cnP P (k + 1) = m + 1 from HC.out)
        clear HC hc
        go_wp2
        go_roundw
        case rel => exact ⟨k + 1, m + 1, by omega, by omega, by go_num, by go_num, HC2.out, HF.out⟩
        case measure => simp [intOf]; omega
      | false =>
        simp only [hc] at cr HC
        have HC2 := hid (show M.cnP P (k + 1) = m from HC.out)
        clear HC hc
        go_wp2
        go_roundw
        case rel => exact ⟨k + 1, m, by omega, by omega, rfl, by go_num, HC2.out, HF.out⟩
        case measure => simp [intOf]; omega
    · obtain rfl : k = n := by omega
      have HF := hid (show Row wr w.heap.size k (fun j => .int .i64 ((M.cnP P j : Nat) : Int)) ∧ Below w.heap.size w wr from ⟨HR.out.2.1.congr fun j hj => by rw [if_pos hj], HR.out.2.2⟩)
      clear HR
      go_wp2
      go_ret
      exact ⟨w.heap.size, rfl, HF.out.1, HF.out.2, Nat.le_refl _⟩
end Go.Proofs.Ytfmlefadifpocaa.B
namespace Go.Proofs.Ytfmlefadifpocaa.B
open Go.ChangeShapes Go.WideShapes Go.ChangeAt Go.RowKit
open Go.Sort hiding Below
set_option linter.unusedVariables false

theorem cturn_rnd (n k gc c1 c2 : Nat) (l : List M.I) (hln : l.length = n) (hn : n ≤ 4096) (ok : ∀ i ∈ l, M.okI i) (hr : M.right l) (hk : k < n) (hc : M.nd (M.strL l) k = true) (c t f d : Int) (hx : M.strI l k = (c, t, f, d))
    (w : World) (hR : Row w gc n (fun j => .int .i64 ((M.cnP (M.nd (M.strL l)) j : Nat) : Int))) (h1 : w.cell? ⟨c1, 0, none⟩ = some (.slice (some ⟨gc, 0, none⟩) n n)) (h2 : w.cell? ⟨c2, 0, none⟩ = some (.int .i64 k)) (y : M.I) (hy : M.rndI (M.strL l) k = y) :
    Calls Try.prog 34 #[.agg #[.int .u16 c, .int .u8 t, .int .u8 f, .int .u32 d], .func (.func 35) #[] #[.pointer (some ⟨c1, 0, none⟩), .pointer (some ⟨c2, 0, none⟩)]] w fun e w' => e = .returned (.agg #[.int .u16 y.1, .int .u8 y.2.1, .int .u8 y.2.2.1, .int .u32 y.2.2.2]) ∧ Below w.heap.size w w' := by
  have hkl : k < l.length := by omega
  have hok : M.okI (c, t, f, d) := by rw [← hx]; exact M.strI_ok hr ok k
  have h0x : M.at0 (M.strL l) k = (c, t, f, d) := by rw [M.strL_at hkl]; exact hx
  obtain ⟨_, b1, b2, b3⟩ := id hok
  simp only at b1 b2 b3
  have cf : ∀ {a : Nat} {v : Value} {W : World}, w.cell? ⟨a, 0, none⟩ = some v → Below w.heap.size w W → W.cell? ⟨a, 0, none⟩ = some v := fun h hb => (hb.cell (block_lt_of_cell h)).trans h
  have hs : M.cnP (M.nd (M.strL l)) (k + 1) = M.cnP (M.nd (M.strL l)) k + 1 := by rw [M.cnP_succ, hc, if_pos rfl]
  have hq : ∀ q, k + 1 + q < n → M.cnP (M.nd (M.strL l)) (k + 1) ≤ M.cnP (M.nd (M.strL l)) (k + 1 + q) ∧ M.cnP (M.nd (M.strL l)) (k + 1 + q) ≤ M.cnP (M.nd (M.strL l)) (k + 1) + q ∧ M.cnP (M.nd (M.strL l)) (k + 1 + q) ≤ 4096 := fun q h => by
    have e1 := M.cnP_mono (M.nd (M.strL l)) (show k + 1 ≤ k + 1 + q by omega)
    have e2 := M.cnP_near (M.nd (M.strL l)) (show k + 1 ≤ k + 1 + q by omega)
    have e3 := M.cnP_near (M.nd (M.strL l)) (Nat.zero_le (k + 1 + q))
    have e4 : M.cnP (M.nd (M.strL l)) 0 = 0 := rfl
    exact ⟨e1, by omega, by omega⟩
  by_cases k1 : M.kind c = 11
  · have hj : M.isJa (M.at0 l k) = true := by rw [← M.strL_ja, h0x]; exact M.isJa_iff.2 k1
    have ht : M.tgt (M.strL l) k = k + 1 + d.toNat := by unfold M.tgt; rw [h0x]
    have htl : k + 1 + d.toNat < n := by rw [← ht, M.strL_tgt hj, ← hln]; exact M.endOf_lt hr ok hkl
    have hyy : y = (c, t, f, ((M.cnP (M.nd (M.strL l)) (k + 1 + d.toNat) - M.cnP (M.nd (M.strL l)) k - 1 : Nat) : Int)) := by
      rw [← hy]
      unfold M.rndI
      rw [h0x, if_pos k1, ht]
      rfl
    obtain ⟨q, rfl⟩ : ∃ q : Nat, d = q := ⟨d.toNat, by omega⟩
    simp only [Int.toNat_natCast] at htl hyy
    obtain ⟨e1, e2, e3⟩ := hq q htl
    have er : M.cnP (M.nd (M.strL l)) (k + 1 + q) - M.cnP (M.nd (M.strL l)) k - 1 = M.cnP (M.nd (M.strL l)) (k + 1 + q) - M.cnP (M.nd (M.strL l)) (k + 1) := by omega
    rw [er] at hyy
    rw [hyy]
    exact cturn_jaR c t f q hok c1 c2 w k1 _ (by omega) (fun W hW => cnear gc n k q _ (M.cnP (M.nd (M.strL l))) hn htl (by omega) e3 c1 c2 W (hR.below hW) (cf h1 hW) (cf h2 hW))
  · by_cases k2 : M.kind c = 12
    · have h' : M.kind (M.at0 (M.strL l) k).1 = 12 := by rw [h0x]; exact k2
      have hrt : M.rets (M.at0 l k) = false := by unfold M.rets; rw [← M.strL_code, h']; rfl
      have g1 := M.str_sel hr ok hkl hrt true
      have g2 := M.str_sel hr ok hkl hrt false
      unfold M.sel at g1 g2
      rw [if_neg (by omega), if_pos h', if_pos rfl, h0x, hln] at g1
      rw [if_neg (by omega), if_pos h', if_neg (by simp), h0x, hln] at g2
      have hyy : y = (c, ((M.cnP (M.nd (M.strL l)) (k + 1 + t.toNat) - M.cnP (M.nd (M.strL l)) k - 1 : Nat) : Int), ((M.cnP (M.nd (M.strL l)) (k + 1 + f.toNat) - M.cnP (M.nd (M.strL l)) k - 1 : Nat) : Int), d) := by
        rw [← hy]
        unfold M.rndI
        rw [h0x, if_neg k1, if_pos k2]
        rfl
      obtain ⟨q, rfl⟩ : ∃ q : Nat, t = q := ⟨t.toNat, by omega⟩
      obtain ⟨p, rfl⟩ : ∃ p : Nat, f = p := ⟨f.toNat, by omega⟩
      simp only [Int.toNat_natCast] at g1 g2 hyy
      obtain ⟨e1, e2, e3⟩ := hq q g1
      obtain ⟨e4, e5, e6⟩ := hq p g2
      have er : M.cnP (M.nd (M.strL l)) (k + 1 + q) - M.cnP (M.nd (M.strL l)) k - 1 = M.cnP (M.nd (M.strL l)) (k + 1 + q) - M.cnP (M.nd (M.strL l)) (k + 1) := by omega
      have es : M.cnP (M.nd (M.strL l)) (k + 1 + p) - M.cnP (M.nd (M.strL l)) k - 1 = M.cnP (M.nd (M.strL l)) (k + 1 + p) - M.cnP (M.nd (M.strL l)) (k + 1) := by omega
      rw [er, es] at hyy
      rw [hyy]
      exact cturn_jifR c q p d hok c1 c2 w k2 _ _ (by omega) (by omega)
        (fun W hW => cnear gc n k q _ (M.cnP (M.nd (M.strL l))) hn g1 (by omega) e3 c1 c2 W (hR.below hW) (cf h1 hW) (cf h2 hW))
        (fun W hW => cnear gc n k p _ (M.cnP (M.nd (M.strL l))) hn g2 (by omega) e6 c1 c2 W (hR.below hW) (cf h1 hW) (cf h2 hW))
    · have hyy : y = (c, t, f, d) := by
        rw [← hy]
        unfold M.rndI
        rw [h0x, if_neg k1, if_neg k2]
      rw [hyy]
      exact cturn_noR c t f d hok c1 c2 w k1 k2

set_option maxHeartbeats 6400000 in
set_option maxRecDepth 1000000 in
theorem cround (b o n cap : Nat) (l : List M.I) (hln : l.length = n) (hn : n ≤ 4096) (ok : ∀ i ∈ l, M.okI i) (hr : M.right l) (w : World) (hl : Ly w b o l) :
    Calls Try.prog 25 #[.slice (some ⟨b, o, none⟩) n cap] w fun e w' => ∃ a c, e = .returned (.slice a (M.roundL l).length c) ∧ Lies w' a (M.roundL l) ∧ Below w.heap.size w w' := by
  have HC := hid (cstraight b o n cap l hln hn ok hr w hl)
  have HN := hid (fun g W (h : Ly W g 0 (M.strL l)) => cneeded g 0 n n (M.strL l) (by rw [M.strL_len]; exact hln) hn (M.strL_ok hr ok) (M.str_right hr ok) W h)
  have HK := hid (fun g W h => ccounts g n n (M.nd (M.strL l)) hn W h)
  have HH := hid (And.intro hln (And.intro ok hr))
  clear hln ok hl hr
  go_enter Try.func25, Try.ntmps25
  go_wp2_with fail
  refine HC.out.mono ?_
  rintro e w1 ⟨gs, rfl, hR, hb, hg⟩
  have HR := hid (And.intro hR hb)
  clear hR hb hg HC
  go_wp2_with fail
  refine (HN.out _ _ (HR.out.1.ly (by rw [M.strL_len]; exact HH.out.1) (fun j hj => by rw [← M.at0_eq hj, M.strL_at (by rw [M.strL_len] at hj; exact hj)]))).mono ?_
  rintro e w2 ⟨gn, rfl, hO, hb, hgo⟩
  have HR2 := hid (show Row w2 gn n (fun j => .bool (M.nd (M.strL l) j)) ∧ Ro w2 gs n (M.strI l) ∧ Below w.heap.size w w2 from ⟨hO, HR.out.1.below hb, (stp (hid HR.out.2) hb).out⟩)
  clear hO hb hgo HN HR
  go_wp2_with fail
  refine (HK.out _ _ HR2.out.1).mono ?_
  rintro e w3 ⟨gc, rfl, hO, hb, hgo⟩
  have hb2 := hb.trans ((al w3 (.cells #[.slice (some ⟨gc, 0, none⟩) n n] 44)).mono hb.size)
  obtain ⟨w4, hw4⟩ : ∃ w4, w3.alloc (.cells #[.slice (some ⟨gc, 0, none⟩) n n] 44) = w4 := ⟨_, rfl⟩
  obtain ⟨p4, hp4⟩ : ∃ p4, w3.heap.size = p4 := ⟨_, rfl⟩
  have HR3 := hid (show Row w4 gn n (fun j => .bool (M.nd (M.strL l) j)) ∧ Row w4 gc n (fun j => .int .i64 ((M.cnP (M.nd (M.strL l)) j : Nat) : Int)) ∧ Ro w4 gs n (M.strI l) ∧ One w4 p4 (.slice (some ⟨gc, 0, none⟩) n n) 44 ∧ Below w.heap.size w w4 from by
    rw [← hw4, ← hp4]
    exact ⟨HR2.out.1.below hb2, hO.below (al _ _), HR2.out.2.1.below hb2, One.new _ _ _, (stp (hid HR2.out.2.2) hb2).out⟩)
  clear hO hb hb2 hgo HK HR2
  try rw [hp4]
  go_wp2
  try rw [hw4]
  try rw [hp4]
  clear hw4 hp4
  obtain ⟨B, hB⟩ : ∃ B, w4.heap.size = B := ⟨_, rfl⟩
  have hBn : gn < B := by rw [← hB]; exact HR3.out.1.lt
  have hBc : gc < B := by rw [← hB]; exact HR3.out.2.1.lt
  have hBs : gs < B := by rw [← hB]; exact HR3.out.2.2.1.lt
  have hB4 : p4 < B := by rw [← hB]; exact HR3.out.2.2.2.1.lt
  have hwB : w.heap.size ≤ B := by rw [← hB]; exact HR3.out.2.2.2.2.size
  have HI := hid (show Own w4 B none 0 0 ([] : List M.I) ∧ Row w4 gn n (fun j => .bool (M.nd (M.strL l) j)) ∧ Row w4 gc n (fun j => .int .i64 ((M.cnP (M.nd (M.strL l)) j : Nat) : Int)) ∧ Ro w4 gs n (M.strI l) ∧ One w4 p4 (.slice (some ⟨gc, 0, none⟩) n n) 44 ∧ Below w.heap.size w w4 ∧ B ≤ w4.heap.size from ⟨Own.nil _ _, HR3.out.1, HR3.out.2.1, HR3.out.2.2.1, HR3.out.2.2.2.1, HR3.out.2.2.2.2, by omega⟩)
  clear HR3 hB
  go_loopw [5, 16] (fun v i wr => ∃ (k m : Nat) (a : Option Addr) (cc : Nat), k ≤ n ∧ m = M.cnt (M.strL l) k ∧ v = .slice a m cc ∧ i = .int .i64 k ∧ Hid (Own wr B a m cc ((M.lsP (M.nd (M.strL l)) k).map (M.rndI (M.strL l))) ∧ Row wr gn n (fun j => .bool (M.nd (M.strL l) j)) ∧ Row wr gc n (fun j => .int .i64 ((M.cnP (M.nd (M.strL l)) j : Nat) : Int)) ∧ Ro wr gs n (M.strI l) ∧ One wr p4 (.slice (some ⟨gc, 0, none⟩) n n) 44 ∧ Below w.heap.size w wr ∧ B ≤ wr.heap.size)) (fun _ i _ => n - (intOf i).toNat)
  case atStart => exact ⟨0, 0, none, 0, Nat.zero_le _, rfl, rfl, rfl, HI.out⟩
  case round =>
    clear HI
    obtain ⟨k, m, a, cc, hk, hmk, rfl, rfl, HR⟩ := hrel
    have HMK := hid hmk
    clear hmk
    have hmb : m ≤ k := by rw [HMK.out]; have := M.cnP_near (M.nd (M.strL l)) (Nat.zero_le k); have e : M.cnP (M.nd (M.strL l)) 0 = 0 := rfl; unfold M.cnt; omega
    by_cases hlt : k < n
    · have i2 : (k : Int) < (n : Int) := by omega
      have hkl : k < l.length := by rw [HH.out.1]; exact hlt
      obtain ⟨x, hx⟩ : ∃ x, M.strI l k = x := ⟨_, rfl⟩
      obtain ⟨c, t, f, d⟩ := x
      have r0 := HR.out.2.2.2.1.c0 k hlt
      have r1 := HR.out.2.2.2.1.c1 k hlt
      have r2 := HR.out.2.2.2.1.c2 k hlt
      have r3 := HR.out.2.2.2.1.c3 k hlt
      rw [hx] at r0 r1 r2 r3
      simp only at r0 r1 r2 r3
      have h4 := ((One.new wr (.int .i64 (k : Int)) 3).alloc (.cells #[.int .u16 c, .int .u8 t, .int .u8 f, .int .u32 d] 38))
      have hb6 := (al wr (.cells #[.int .i64 (k : Int)] 3)).trans ((al _ (.cells #[.int .u16 c, .int .u8 t, .int .u8 f, .int .u32 d] 38)).mono (al _ _).size)
      obtain ⟨acc, hacc⟩ : ∃ acc, (M.lsP (M.nd (M.strL l)) k).map (M.rndI (M.strL l)) = acc := ⟨_, rfl⟩
      rw [hacc] at HR
      have HV := hid (show Own ((wr.alloc (.cells #[.int .i64 (k : Int)] 3)).alloc (.cells #[.int .u16 c, .int .u8 t, .int .u8 f, .int .u32 d] 38)) B a m cc acc ∧ Row ((wr.alloc (.cells #[.int .i64 (k : Int)] 3)).alloc (.cells #[.int .u16 c, .int .u8 t, .int .u8 f, .int .u32 d] 38)) gn n (fun j => .bool (M.nd (M.strL l) j)) ∧ Row ((wr.alloc (.cells #[.int .i64 (k : Int)] 3)).alloc (.cells #[.int .u16 c, .int .u8 t, .int .u8 f, .int .u32 d] 38)) gc n (fun j => .int .i64 ((M.cnP (M.nd (M.strL l)) j : Nat) : Int)) ∧ Ro ((wr.alloc (.cells #[.int .i64 (k : Int)] 3)).alloc (.cells #[.int .u16 c, .int .u8 t, .int .u8 f, .int .u32 d] 38)) gs n (M.strI l) ∧ One ((wr.alloc (.cells #[.int .i64 (k : Int)] 3)).alloc (.cells #[.int .u16 c, .int .u8 t, .int .u8 f, .int .u32 d] 38)) p4 (.slice (some ⟨gc, 0, none⟩) n n) 44 ∧ Below w.heap.size w ((wr.alloc (.cells #[.int .i64 (k : Int)] 3)).alloc (.cells #[.int .u16 c, .int .u8 t, .int .u8 f, .int .u32 d] 38)) ∧ B ≤ ((wr.alloc (.cells #[.int .i64 (k : Int)] 3)).alloc (.cells #[.int .u16 c, .int .u8 t, .int .u8 f, .int .u32 d] 38)).heap.size from ⟨HR.out.1.below hb6, HR.out.2.1.below hb6, HR.out.2.2.1.below hb6, HR.out.2.2.2.1.below hb6, HR.out.2.2.2.2.1.below hb6, (stp (hid HR.out.2.2.2.2.2.1) hb6).out, Nat.le_trans HR.out.2.2.2.2.2.2 hb6.size⟩)
      have cn := HV.out.2.1.cell k hlt
      clear hb6 HR
      cases hc : M.nd (M.strL l) k with
      | false =>
        simp only [hc] at cn
        have HE := hid (show m = M.cnt (M.strL l) (k + 1) ∧ (M.lsP (M.nd (M.strL l)) (k + 1)).map (M.rndI (M.strL l)) = acc from
          ⟨by rw [HMK.out]; unfold M.cnt; rw [M.cnP_succ, hc]; simp, by rw [M.lsP_succ, hc]; simpa using hacc⟩)
        clear hc hx hacc h4
        go_wp2
        go_roundw
        case rel => exact ⟨k + 1, m, a, cc, by omega, HE.out.1, rfl, by go_num, by rw [HE.out.2]; exact HV.out⟩
        case measure => simp [intOf]; omega
      | true =>
        simp only [hc] at cn
        obtain ⟨y, hy⟩ : ∃ y, M.rndI (M.strL l) k = y := ⟨_, rfl⟩
        have HE := hid (show M.cnt (M.strL l) (k + 1) = m + 1 ∧ (M.lsP (M.nd (M.strL l)) (k + 1)).map (M.rndI (M.strL l)) = acc ++ [y] from
          ⟨by rw [HMK.out]; unfold M.cnt; rw [M.cnP_succ, hc]; simp, by rw [M.lsP_succ, hc, if_pos rfl, List.map_append, hacc, List.map_cons, List.map_nil, hy]⟩)
        obtain ⟨yc, yt, yf, yk⟩ := y
        have HT := hid (fun c2 W h1 h2 h3 => cturn_rnd n k gc p4 c2 l HH.out.1 hn HH.out.2.1 HH.out.2.2 hlt hc c t f d hx W h1 h2 h3 (yc, yt, yf, yk) hy)
        simp only at HT
        clear hc hx hacc hy
        go_wp2_with fail
        refine (HT.out _ _ HV.out.2.2.1 HV.out.2.2.2.2.1.cell h4.cell).mono ?_
        rintro e w3 ⟨rfl, hb⟩
        replace HV := hid (show Own w3 B a m cc acc ∧ Row w3 gn n (fun j => .bool (M.nd (M.strL l) j)) ∧ Row w3 gc n (fun j => .int .i64 ((M.cnP (M.nd (M.strL l)) j : Nat) : Int)) ∧ Ro w3 gs n (M.strI l) ∧ One w3 p4 (.slice (some ⟨gc, 0, none⟩) n n) 44 ∧ Below w.heap.size w w3 ∧ B ≤ w3.heap.size from ⟨HV.out.1.below hb, HV.out.2.1.below hb, HV.out.2.2.1.below hb, HV.out.2.2.2.1.below hb, HV.out.2.2.2.2.1.below hb, (stp (hid HV.out.2.2.2.2.2.1) hb).out, Nat.le_trans HV.out.2.2.2.2.2.2 hb.size⟩)
        clear hb HT h4 cn r0 r1 r2 r3
        go_wp2_with (at_builtin; refine wpList_append_row (by rfl) _ _ rfl B m 1 cc 1 a (some ⟨w3.heap.size, 0, none⟩) acc [(yc, yt, yf, yk)] rfl (HV.out.1.below (al _ _)) rfl (lies_lit w3 [(yc, yt, yf, yk)] 1 rfl (by unfold maxLen; omega)) rfl (by omega) (Nat.le_trans HV.out.2.2.2.2.2.2 (al w3 (.cells (i4s [(yc, yt, yf, yk)]).toArray 38)).size) ?_)
        intro a2 cap2 w9 hown hb9
        have hb9' := ((Below.refl B w3).alloc HV.out.2.2.2.2.2.2 (.cells (i4s [(yc, yt, yf, yk)]).toArray 38)).trans hb9
        have HZ := hid (show Own w9 B a2 (m + 1) cap2 ((M.lsP (M.nd (M.strL l)) (k + 1)).map (M.rndI (M.strL l))) ∧ Row w9 gn n (fun j => .bool (M.nd (M.strL l) j)) ∧ Row w9 gc n (fun j => .int .i64 ((M.cnP (M.nd (M.strL l)) j : Nat) : Int)) ∧ Ro w9 gs n (M.strI l) ∧ One w9 p4 (.slice (some ⟨gc, 0, none⟩) n n) 44 ∧ Below w.heap.size w w9 ∧ B ≤ w9.heap.size from
          ⟨by rw [HE.out.2]; exact hown, HV.out.2.1.far hb9' hBn, HV.out.2.2.1.far hb9' hBc, HV.out.2.2.2.1.far hb9' hBs, HV.out.2.2.2.2.1.far hb9' hB4, HV.out.2.2.2.2.2.1.trans (hb9'.mono (by omega)), Nat.le_trans HV.out.2.2.2.2.2.2 hb9'.size⟩)
        clear hown hb9 hb9' HV
        go_wp2
        go_roundw
        case rel => exact ⟨k + 1, m + 1, a2, cap2, by omega, HE.out.1.symm, rfl, by go_num, HZ.out⟩
        case measure => simp [intOf]; omega
    · obtain rfl : k = n := by omega
      have HF := hid (show Lies wr a (M.roundL l) ∧ m = (M.roundL l).length from by
        have e : M.roundL l = (M.lsP (M.nd (M.strL l)) k).map (M.rndI (M.strL l)) := by
          unfold M.roundL M.rndL
          rw [M.strL_len, HH.out.1]
        refine ⟨by rw [e]; exact HR.out.1.lies, ?_⟩
        rw [HMK.out]
        unfold M.roundL
        rw [M.rndL_len, M.strL_len, HH.out.1])
      go_wp2
      go_ret
      exact ⟨a, cc, by rw [← HF.out.2]; rfl, HF.out.1, HR.out.2.2.2.2.2.1⟩
end Go.Proofs.Ytfmlefadifpocaa.B
namespace Go.Proofs.Ytfmlefadifpocaa.B
open Go.ChangeShapes Go.WideShapes Go.ChangeAt Go.RowKit
open Go.Sort hiding Below
set_option linter.unusedVariables false

theorem cequal_len (a b : Option Addr) (l m : List M.I) (n1 n2 ca cb : Nat) (w : World) (h1 : l.length = n1) (h2 : m.length = n2) (hl : Lies w a l) (hm : Lies w b m) (b1 : n1 ≤ 65536) (b2 : n2 ≤ 65536) (q : Bool) (hq : decide (l = m) = q) :
    Calls Try.prog 26 #[.slice a n1 ca, .slice b n2 cb] w fun e w' => e = .returned (.bool q) ∧ ∃ n, w' = w.drewN n := by
  subst h1 h2 hq
  exact equal_any a b l m ca cb w hl hm b1 b2

/-- the number in a cell -/
def cellN (v : Option Value) : Int := match v with
  | some (.int _ k) => k
  | _ => 0
/-- the list that a slice holds, as the world has it -/
def rdL (v : Value) (W : World) : List M.I := match v with
  | .slice (some A) n _ => (List.range n).map fun j => (cellN (W.cell? ⟨A.block, A.off + j * 4, none⟩), cellN (W.cell? ⟨A.block, A.off + j * 4 + 1, none⟩), cellN (W.cell? ⟨A.block, A.off + j * 4 + 2, none⟩), cellN (W.cell? ⟨A.block, A.off + j * 4 + 3, none⟩))
  | _ => []
theorem rdL_ly {W : World} {b o n c : Nat} {L : List M.I} (h : Ly W b o L) (hn : L.length = n) : rdL (.slice (some ⟨b, o, none⟩) n c) W = L := by
  unfold rdL
  apply List.ext_getElem
  · simp [hn]
  · intro j h1 h2
    obtain ⟨p0, p1, p2, p3⟩ := h.2 j h2
    rw [List.getElem_map, List.getElem_range]
    simp only [p0, p1, p2, p3, cellN]
/-- what is left to do -/
def mzP (v : Value) (W : World) : Nat := 2 * (rdL v W).length + (if M.roundL (rdL v W) = rdL v W then 0 else 1)
theorem mzP_less {W W' : World} {b o n c b' o' n' c' : Nat} {L : List M.I} (h : Ly W b o L) (hn : L.length = n) (hr : M.right L) (ok : ∀ i ∈ L, M.okI i) (h' : Ly W' b' o' (M.roundL L)) (hn' : (M.roundL L).length = n') (hne : M.roundL L ≠ L) :
    mzP (.slice (some ⟨b', o', none⟩) n' c') W' < mzP (.slice (some ⟨b, o, none⟩) n c) W := by
  unfold mzP
  rw [rdL_ly h hn, rdL_ly h' hn', if_neg hne]
  have hl := (M.round_len hr ok).2
  by_cases e : (M.roundL L).length = L.length
  · rw [if_pos (M.round_fix hr ok e)]; omega
  · split <;> omega

set_option maxHeartbeats 3200000 in
set_option maxRecDepth 1000000 in
theorem cprune : PrOk := by
  intro b o n cap l hln hn ok hr w hl
  have HC := hid (right_any (some ⟨b, o, none⟩) n cap l hln (by omega) ok w hl.lies true (M.right_of.2 hr))
  have HI := hid (fun W (hb : Below w.heap.size w W) => (show Ly W b o l ∧ l.length = n ∧ M.right l ∧ (∀ i ∈ l, M.okI i) ∧ M.pruneL l = M.pruneL l ∧ Below w.heap.size w W from ⟨hl.below hb, hln, hr, ok, rfl, hb⟩))
  clear hln ok hl hr
  go_enter Try.func16, Try.ntmps16
  go_wp2_with fail
  refine HC.out.mono ?_
  rintro e w1 ⟨rfl, hb⟩
  have HI := hid (HI.out w1 hb)
  clear hb HC
  go_wp2
  go_loopw [0] (fun v wr => ∃ (b' o' m c : Nat) (L : List M.I), m ≤ n ∧ v = .slice (some ⟨b', o', none⟩) m c ∧ Hid (Ly wr b' o' L ∧ L.length = m ∧ M.right L ∧ (∀ i ∈ L, M.okI i) ∧ M.pruneL L = M.pruneL l ∧ Below w.heap.size w wr)) (fun v wr => mzP v wr)
  case atStart => exact ⟨b, o, n, cap, l, Nat.le_refl _, rfl, HI.out.1, HI.out.2.1, HI.out.2.2.1, HI.out.2.2.2.1, rfl, HI.out.2.2.2.2.2⟩
  case round =>
    clear HI
    obtain ⟨b', o', m, c, L, hmn, rfl, HR⟩ := hrel
    have HC := hid (cround b' o' m c L HR.out.2.1 (by omega) HR.out.2.2.2.1 HR.out.2.2.1 wr HR.out.1)
    have hrl := (M.round_len HR.out.2.2.1 HR.out.2.2.2.1).2
    have hr0 := (M.round_len HR.out.2.2.1 HR.out.2.2.2.1).1
    obtain ⟨m', hm'⟩ : ∃ m', (M.roundL L).length = m' := ⟨_, rfl⟩
    rw [hm'] at HC hrl hr0
    rw [HR.out.2.1] at hrl
    obtain ⟨eq, heq⟩ : ∃ eq, decide (M.roundL L = L) = eq := ⟨_, rfl⟩
    have HS := hid (fun a1 a2 c1 c2 (W : World) h1 h2 => cequal_len a1 a2 (M.roundL L) L m' m c1 c2 W hm' HR.out.2.1 h1 h2 (by omega) (by omega) eq heq)
    have HE := hid heq
    have HM := hid hm'
    clear hm' heq
    go_wp2_with fail
    refine HC.out.mono ?_
    rintro e w2 ⟨a1, c1, rfl, hx, hb⟩
    obtain ⟨b1, o1, rfl, hy⟩ := hx.ly (by rw [HM.out]; exact hr0)
    have HX := hid (show Ly w2 b1 o1 (M.roundL L) ∧ Ly w2 b' o' L ∧ Below w.heap.size w w2 from ⟨hy, HR.out.1.below hb, (stp (hid HR.out.2.2.2.2.2) hb).out⟩)
    clear hx hy hb HC
    go_wp2_with fail
    refine (HS.out _ _ _ _ _ HX.out.1.lies HX.out.2.1.lies).mono ?_
    rintro e w3 ⟨rfl, q, rfl⟩
    have HY := hid (show Ly (w2.drewN q) b1 o1 (M.roundL L) ∧ Below w.heap.size w (w2.drewN q) from ⟨HX.out.1.below (bdrew (Below.refl _ _) q), bdrew HX.out.2.2 q⟩)
    obtain ⟨w4, hw4⟩ : ∃ w4, w2.drewN q = w4 := ⟨_, rfl⟩
    rw [hw4] at HY ⊢
    clear hw4 HX HS
    cases eq with
    | true =>
      have HF := hid (show M.pruneL l = M.roundL L from by
        have e := of_decide_eq_true HE.out
        rw [← HR.out.2.2.2.2.1, M.prune_fix e, e])
      go_wp2
      go_ret2
      exact ⟨some ⟨b1, o1, none⟩, c1, by rw [HF.out, HM.out]; rfl, by rw [HF.out]; exact HY.out.1.lies, HY.out.2⟩
    | false =>
      have hne := of_decide_eq_false HE.out
      have HF := hid (show M.pruneL (M.roundL L) = M.pruneL l ∧ M.right (M.roundL L) ∧ (∀ i ∈ M.roundL L, M.okI i) from
        ⟨by rw [← HR.out.2.2.2.2.1]; exact (M.prune_step HR.out.2.2.1 HR.out.2.2.2.1).symm, M.round_right HR.out.2.2.1 HR.out.2.2.2.1, M.rnd_ok HR.out.2.2.1 HR.out.2.2.2.1⟩)
      have HZ := hid (mzP_less (c := c) (c' := c1) HR.out.1 HR.out.2.1 HR.out.2.2.1 HR.out.2.2.2.1 HY.out.1 HM.out hne)
      clear HR HE hne
      go_wp2
      go_roundw
      case rel => exact ⟨b1, o1, m', c1, M.roundL L, by omega, rfl, HY.out.1, HM.out, HF.out.2.1, HF.out.2.2, HF.out.1, HY.out.2⟩
      case measure => exact HZ.out

set_option maxHeartbeats 1600000 in
set_option maxRecDepth 100000 in
theorem cprune_bad : PrBad := by
  intro a n cap l hln hn ok hb w hl
  have HC := hid (right_any a n cap l hln (by omega) ok w hl false hb)
  clear hln ok hb hl
  go_enter Try.func16, Try.ntmps16
  go_wp2_with fail
  refine HC.out.mono ?_
  rintro e w1 ⟨rfl, hb⟩
  have HB := hid hb
  clear hb HC
  go_wp2
  go_ret2
  exact ⟨none, 0, rfl, HB.out⟩

end Go.Proofs.Ytfmlefadifpocaa.B
