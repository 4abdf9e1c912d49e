/-
  The program's Reached and Into, its leaders, where a block ends: as walks over the Go text.
-/
import Derived.Test.YthfneidbaiebhaaG7
namespace Go.Proofs.Ythfneidbaiebhaa.M
/-- the leaders, as they are known when the jumps among the first k places are -/
def leadR (l : List I) (k j : Nat) : Bool := decide (j = 0) || decide (1 < into l j) || jmpK l k j
theorem leadR_zero (l : List I) (j : Nat) : leadR l 0 j = if j = 0 then true else decide (1 < into l j) := by
  unfold leadR; rw [jmpK_zero]
  by_cases e : j = 0 <;> simp [e]
theorem leadR_succ (l : List I) (k j : Nat) : leadR l (k + 1) j = (leadR l k j || (rch l k && isJ (at0 l k) && (beh k (at0 l k)).contains j)) := by
  unfold leadR; rw [jmpK_succ]; simp only [Bool.or_assoc]
theorem leadR_all {l : List I} {n : Nat} (hn : l.length = n) (j : Nat) : leadR l n j = lead l j := by
  subst hn; rfl
theorem ends_go {c t f k : Int} (h : ends c = true) : goesOn (c, t, f, k) = false := by
  unfold ends at h
  unfold goesOn
  simp only [Bool.or_eq_true, beq_iff_eq] at h
  simp only [Bool.not_eq_false', Bool.and_eq_true, decide_eq_true_eq]
  omega
theorem isJ_go {c t f k : Int} (h : isJ (c, t, f, k) = true) : goesOn (c, t, f, k) = false := by
  unfold isJ at h
  unfold goesOn
  simp only [Bool.or_eq_true, decide_eq_true_eq] at h
  simp only [Bool.not_eq_false', Bool.and_eq_true, decide_eq_true_eq]
  omega
theorem on_go {c t f k : Int} (h1 : ends c = false) (h2 : isJ (c, t, f, k) = false) : goesOn (c, t, f, k) = true := by
  unfold ends at h1
  unfold isJ at h2
  rw [goesOn_iff]
  simp only [Bool.or_eq_false_iff, beq_eq_false_iff_ne, decide_eq_false_iff_not] at h1 h2
  simp only
  omega
end Go.Proofs.Ythfneidbaiebhaa.M
namespace Go.Proofs.Ythfneidbaiebhaa.B
open Go.ChangeShapes Go.WideShapes Go.ChangeAt Go.RowKit
open Go.Sort hiding Below
set_option linter.unusedVariables false

set_option maxHeartbeats 1600000 in
set_option maxRecDepth 100000 in
theorem greached_bad (a : Option Addr) (n cap : Nat) (l : List M.I) (hln : l.length = n) (hn : n ≤ 65536) (ok : ∀ i ∈ l, M.okI i) (w : World) (hl : Lies w a l) (hb : M.rightB l = false) :
    Calls Try.prog 13 #[.slice a n cap] w fun e w' => e = .returned (.slice none 0 0) ∧ Below w.heap.size w w' := by
  have HC := hid (right_any a n cap l hln (by omega) ok w hl false hb)
  clear hl ok hb
  go_enter Try.func13, Try.ntmps13
  go_wp2_with fail
  refine HC.out.mono ?_
  rintro e w1 ⟨rfl, hb⟩
  have HB := hid hb
  clear hb HC
  go_wp2
  go_ret
  exact ⟨rfl, HB.out⟩
set_option maxHeartbeats 1600000 in
set_option maxRecDepth 100000 in
theorem ginto_bad (a : Option Addr) (n cap : Nat) (l : List M.I) (hln : l.length = n) (hn : n ≤ 65536) (ok : ∀ i ∈ l, M.okI i) (w : World) (hl : Lies w a l) (hb : M.rightB l = false) :
    Calls Try.prog 14 #[.slice a n cap] w fun e w' => e = .returned (.slice none 0 0) ∧ Below w.heap.size w w' := by
  have HC := hid (right_any a n cap l hln (by omega) ok w hl false hb)
  clear hl ok hb
  go_enter Try.func14, Try.ntmps14
  go_wp2_with fail
  refine HC.out.mono ?_
  rintro e w1 ⟨rfl, hb⟩
  have HB := hid hb
  clear hb HC
  go_wp2
  go_ret
  exact ⟨rfl, HB.out⟩
set_option maxHeartbeats 1600000 in
set_option maxRecDepth 100000 in
theorem gReached (b o n cap : Nat) (l : List M.I) (hln : l.length = n) (hn : n ≤ 4096) (ok : ∀ i ∈ l, M.okI i) (hr : M.right l) (w : World) (hl : Ly w b o l) :
    Calls Try.prog 13 #[.slice (some ⟨b, o, none⟩) n cap] w fun e w' => ∃ g, e = .returned (.slice (some ⟨g, 0, none⟩) n n) ∧ Row w' g n (fun j => .bool (M.rch l j)) ∧ Below w.heap.size w w' ∧ w.heap.size ≤ g := by
  have HC := hid (right_any (some ⟨b, o, none⟩) n cap l hln (by omega) ok w hl.lies true (M.right_of.2 hr))
  have HG := hid (fun W (hb : Below w.heap.size w W) => greached_any b o n cap l hln hn ok hr W (hl.below hb))
  clear hl ok hr hln
  go_enter Try.func13, Try.ntmps13
  go_wp2_with fail
  refine HC.out.mono ?_
  rintro e w1 ⟨rfl, hb⟩
  have HB := hid hb
  clear hb HC
  go_wp2_with fail
  refine (HG.out _ HB.out).mono ?_
  rintro e w2 ⟨g, rfl, hR, hb, hg⟩
  have HR := hid (show Row w2 g n (fun j => .bool (M.rch l j)) ∧ Below w.heap.size w w2 ∧ w.heap.size ≤ g from ⟨hR, (stp HB hb).out, Nat.le_trans HB.out.size hg⟩)
  clear hb hR hg HB HG
  go_wp2
  go_ret
  exact ⟨g, rfl, HR.out⟩
set_option maxHeartbeats 1600000 in
set_option maxRecDepth 100000 in
theorem gInto (b o n cap : Nat) (l : List M.I) (hln : l.length = n) (hn : n ≤ 4096) (ok : ∀ i ∈ l, M.okI i) (hr : M.right l) (w : World) (hl : Ly w b o l) :
    Calls Try.prog 14 #[.slice (some ⟨b, o, none⟩) n cap] w fun e w' => ∃ g, e = .returned (.slice (some ⟨g, 0, none⟩) n n) ∧ Row w' g n (fun j => .int .i64 ((M.into l j : Nat) : Int)) ∧ Below w.heap.size w w' ∧ w.heap.size ≤ g := by
  have HC := hid (right_any (some ⟨b, o, none⟩) n cap l hln (by omega) ok w hl.lies true (M.right_of.2 hr))
  have HG := hid (fun W (hb : Below w.heap.size w W) => ginto_any b o n cap l hln hn ok hr W (hl.below hb))
  clear hl ok hr hln
  go_enter Try.func14, Try.ntmps14
  go_wp2_with fail
  refine HC.out.mono ?_
  rintro e w1 ⟨rfl, hb⟩
  have HB := hid hb
  clear hb HC
  go_wp2_with fail
  refine (HG.out _ HB.out).mono ?_
  rintro e w2 ⟨g, rfl, hR, hb, hg⟩
  have HR := hid (show Row w2 g n (fun j => .int .i64 ((M.into l j : Nat) : Int)) ∧ Below w.heap.size w w2 ∧ w.heap.size ≤ g from ⟨hR, (stp HB hb).out, Nat.le_trans HB.out.size hg⟩)
  clear hb hR hg HB HG
  go_wp2
  go_ret
  exact ⟨g, rfl, HR.out⟩

set_option maxHeartbeats 1600000 in
set_option maxRecDepth 100000 in
theorem jumps_any (c t f k : Int) (w : World) :
    Calls Try.prog 47 #[.agg #[.int .u16 c, .int .u8 t, .int .u8 f, .int .u32 k]] w fun e w' => e = .returned (.bool (M.isJ (c, t, f, k))) ∧ Below w.heap.size w w' := by
  have HS := hid (show M.isJ (c, t, f, k) = (decide (M.kind c = 11) || decide (M.kind c = 12)) from rfl)
  go_enter Try.func47, Try.ntmps47
  go_wp2_with fail
  refine (kind_any _ _).mono ?_
  rintro e w1 ⟨rfl, rfl⟩
  obtain ⟨v, hv⟩ : ∃ v, M.kind c = v := ⟨_, rfl⟩
  rw [hv] at HS ⊢
  clear hv
  by_cases h1 : v = 11
  · have d1 : (v == 11) = true := by simpa using h1
    have HF := hid (show M.isJ (c, t, f, k) = true by rw [HS.out, decide_eq_true h1]; rfl)
    clear h1
    go_wp2
    go_ret
    exact ⟨by rw [HF.out]; rfl, al _ _⟩
  · have d1 : (v == 11) = false := by simpa using h1
    by_cases h2 : v = 12
    · have d2 : (v == 12) = true := by simpa using h2
      have HF := hid (show M.isJ (c, t, f, k) = true by rw [HS.out, decide_eq_true h2, decide_eq_false h1]; rfl)
      clear h1 h2
      go_wp2
      go_ret
      exact ⟨by rw [HF.out]; rfl, al _ _⟩
    · have d2 : (v == 12) = false := by simpa using h2
      have HF := hid (show M.isJ (c, t, f, k) = false by rw [HS.out, decide_eq_false h1, decide_eq_false h2]; rfl)
      clear h1 h2
      go_wp2
      go_ret
      exact ⟨by rw [HF.out]; rfl, al _ _⟩

set_option maxHeartbeats 6400000 in
set_option maxRecDepth 1000000 in
theorem gleaders_any (b o n cap : Nat) (l : List M.I) (hln : l.length = n) (hn : n ≤ 4096) (ok : ∀ i ∈ l, M.okI i) (hr : M.right l) (w : World) (hl : Ly w b o l) :
    Calls Try.prog 34 #[.slice (some ⟨b, o, none⟩) n cap] w fun e w' => ∃ g, e = .returned (.slice (some ⟨g, 0, none⟩) n n) ∧ Row w' g n (fun j => .bool (M.lead l j)) ∧ Below w.heap.size w w' ∧ w.heap.size ≤ g := by
  obtain ⟨i0, hi, hz0, hz1, hz2⟩ := info_parts infob
  have h0 : 0 < n := by rw [← hln]; exact ((M.right_iff l).1 hr).1.1
  have i1 : (0 : Int) < (n : Int) := by omega
  have HC := hid (fun W (h : Ly W b o l) => greached_any b o n cap l hln hn ok hr W h)
  have HC2 := hid (fun W (h : Ly W b o l) => ginto_any b o n cap l hln hn ok hr W h)
  have HH := hid (And.intro hln (And.intro ok (And.intro hl hr)))
  have hbl : b < w.heap.size := hl.1
  clear hln ok hl hr
  go_enter Try.func34, Try.ntmps34
  go_wp2_with (at_make; refine wpList_make_full _ rfl _ _ 28 rfl w.heap.size 4 i0 (.bool false) 1 Try.underlying28 hi hz0 hz1 .i64 .i64 n n n rfl rfl rfl rfl ?c1 ?c2 (Nat.le_refl _) ?_)
  case c1 => rw [hz2]; omega
  case c2 => unfold maxLen; omega
  intro wm hown hgrow
  have hbm : Below w.heap.size w wm := (Below.refl _ _).grown hgrow (Nat.le_refl _) (by intro k hk; cases hk)
  have hR0 : Row wm w.heap.size n (fun j => .bool (decide (j < 0) && decide (1 < M.into l j))) := (Row.of_own hown (fun j hj => made_get (.bool false) n j hj) (hown.lt _ rfl).2).congr fun j _ => by simp
  have HM0 := hid (And.intro hR0 hbm)
  clear hown hgrow hbm hR0
  go_wp2_with fail
  refine (HC2.out _ (HH.out.2.2.1.far HM0.out.2 hbl)).mono ?_
  rintro e w1 ⟨gi, rfl, hR, hb, hg⟩
  have hgi : w.heap.size < gi := Nat.lt_of_lt_of_le HM0.out.1.lt hg
  have HM := hid (show Row w1 gi n (fun j => .int .i64 ((M.into l j : Nat) : Int)) ∧ Row w1 w.heap.size n (fun j => .bool (decide (j < 0) && decide (1 < M.into l j))) ∧ Below w.heap.size w w1 from ⟨hR, HM0.out.1.below hb, (stp (hid HM0.out.2) hb).out⟩)
  clear hR hb hg HC2 HM0
  go_wp2
  go_loopw [16] (fun i wr => ∃ k : Nat, k ≤ n ∧ i = .int .i64 k ∧ Hid (Row wr gi n (fun j => .int .i64 ((M.into l j : Nat) : Int)) ∧ Row wr w.heap.size n (fun j => .bool (decide (j < k) && decide (1 < M.into l j))) ∧ Below w.heap.size w wr)) (fun i _ => n - (intOf i).toNat)
  case atStart => exact ⟨0, Nat.zero_le _, rfl, HM.out⟩
  case round =>
    clear HM
    obtain ⟨k, hk, rfl, HR⟩ := hrel
    by_cases hlt : k < n
    · have i2 : (k : Int) < (n : Int) := by omega
      have ci := HR.out.1.cell k hlt
      have co := HR.out.2.1.cell k hlt
      have fo := HR.out.2.1.froz k hlt
      obtain ⟨v, hv⟩ : ∃ v, M.into l k = v := ⟨_, rfl⟩
      simp only [hv] at ci
      obtain ⟨d, hd⟩ : ∃ d, decide ((1 : Int) < (v : Int)) = d := ⟨_, rfl⟩
      have HF := hid (show ∀ j, (decide (j < k + 1) && decide (1 < M.into l j)) = if j = k then d else (decide (j < k) && decide (1 < M.into l j)) by
        intro j
        by_cases e : j = k
        · subst e
          rw [if_pos rfl, hv, ← hd, decide_eq_true (show j < j + 1 by omega), Bool.true_and]
          by_cases e2 : 1 < v
          · rw [decide_eq_true e2, decide_eq_true (by omega)]
          · rw [decide_eq_false e2, decide_eq_false (by omega)]
        · rw [if_neg e]
          by_cases e2 : j < k
          · rw [decide_eq_true e2, decide_eq_true (show j < k + 1 by omega)]
          · rw [decide_eq_false e2, decide_eq_false (show ¬ j < k + 1 by omega)])
      clear hv
      cases d with
      | true =>
        go_wp2
        go_roundw
        case rel => exact ⟨k + 1, by omega, by go_num, HR.out.1.other _ _ _ (by omega), (HR.out.2.1.set k hlt (.bool true)).congr (fun j hj => by
          rw [HF.out]
          by_cases e : j = k <;> simp [e]), HR.out.2.2.setCell (Nat.le_refl _) _⟩
        case measure => simp [intOf]; omega
      | false =>
        go_wp2
        go_roundw
        case rel => exact ⟨k + 1, by omega, by go_num, HR.out.1.other _ _ _ (by omega), (HR.out.2.1.set k hlt (.bool false)).congr (fun j hj => by
          rw [HF.out]
          by_cases e : j = k <;> simp [e]), HR.out.2.2.setCell (Nat.le_refl _) _⟩
        case measure => simp [intOf]; omega
    · obtain rfl : k = n := by omega
      have cZ := HR.out.2.1.cell 0 h0
      have fZ := HR.out.2.1.froz 0 h0
      have HM := hid (show Row (wr.setCell ⟨w.heap.size, 0, none⟩ (.bool true)) w.heap.size k (fun j => .bool (M.leadR l 0 j)) ∧ Below w.heap.size w (wr.setCell ⟨w.heap.size, 0, none⟩ (.bool true)) from
        ⟨(HR.out.2.1.set 0 h0 (.bool true)).congr (fun j hj => by
          rw [M.leadR_zero]
          by_cases e2 : j = 0
          · simp [e2]
          · simp [e2, hj]), HR.out.2.2.setCell (Nat.le_refl _) _⟩)
      clear HR
      go_wp2_with fail
      generalize wr.setCell ⟨w.heap.size, 0, none⟩ (.bool true) = wz at *
      refine (HC.out _ (HH.out.2.2.1.far HM.out.2 hbl)).mono ?_
      rintro e w2 ⟨gr, rfl, hR, hb, hg⟩
      have hgr : w.heap.size < gr := Nat.lt_of_lt_of_le HM.out.1.lt hg
      have HM2 := hid (show Row w2 gr k (fun j => .bool (M.rch l j)) ∧ Row w2 w.heap.size k (fun j => .bool (M.leadR l 0 j)) ∧ Below w.heap.size w w2 from ⟨hR, HM.out.1.below hb, (stp (hid HM.out.2) hb).out⟩)
      clear hR hb hg HC HM cZ fZ
      go_wp2
      go_loopw [32] (fun i wr => ∃ p : Nat, p ≤ k ∧ i = .int .i64 p ∧ Hid (Row wr gr k (fun j => .bool (M.rch l j)) ∧ Row wr w.heap.size k (fun j => .bool (M.leadR l p j)) ∧ Below w.heap.size w wr)) (fun i _ => k - (intOf i).toNat)
      case atStart => exact ⟨0, Nat.zero_le _, rfl, HM2.out⟩
      case round =>
        clear HM2
        obtain ⟨p, hp, rfl, HR⟩ := hrel
        by_cases hpl : p < k
        · have i2 : (p : Int) < (k : Int) := by omega
          have hkl : p < l.length := by rw [HH.out.1]; exact hpl
          have cr := HR.out.1.cell p hpl
          obtain ⟨x, hx⟩ : ∃ x, l[p] = x := ⟨_, rfl⟩
          have h0x : M.at0 l p = x := by rw [M.at0_eq hkl]; exact hx
          have hq : LiesAt wr b o p x := by rw [← hx]; exact (HH.out.2.2.1.far HR.out.2.2 hbl).2 p hkl
          obtain ⟨js, hjs⟩ : ∃ js, M.beh p (M.at0 l p) = js := ⟨_, rfl⟩
          have HN := hid (fun W h => gnext_ly b o k cap p l HH.out.1 hn hkl HH.out.2.1 HH.out.2.2.2 W h js hjs)
          have HJ := hid (show ∀ y ∈ js, y < k from fun y hy => by rw [← hjs] at hy; rw [← HH.out.1]; exact M.beh_lt HH.out.2.2.2 HH.out.2.1 hkl hy)
          have hlen : js.length ≤ 2 := by rw [← hjs]; exact M.beh_len _ _
          have HS := hid (show ∀ j, M.leadR l (p + 1) j = (M.leadR l p j || (M.rch l p && M.isJ x && js.contains j)) by intro j; rw [M.leadR_succ, h0x, ← hjs, h0x])
          clear hjs h0x hx
          obtain ⟨m, hm⟩ : ∃ m, js.length = m := ⟨_, rfl⟩
          rw [hm] at HN hlen
          obtain ⟨c, t, f, d⟩ := x
          obtain ⟨q0, q1, q2, q3⟩ := hq
          simp only at q0 q1 q2 q3
          obtain ⟨rb, hrb⟩ : ∃ rb, M.rch l p = rb := ⟨_, rfl⟩
          obtain ⟨jb, hjb⟩ : ∃ jb, M.isJ (c, t, f, d) = jb := ⟨_, rfl⟩
          have HJm := hid (fun W => jumps_any c t f d W)
          rw [hjb] at HJm HS
          rw [hrb] at HS
          simp only [hrb] at cr
          clear hrb hjb
          cases rb with
          | false =>
            have HS2 := hid (show ∀ j, M.leadR l (p + 1) j = M.leadR l p j by intro j; rw [HS.out]; simp)
            clear HS HN
            go_wp2
            go_roundw
            case rel => exact ⟨p + 1, by omega, by go_num, HR.out.1, HR.out.2.1.congr (fun j _ => by rw [HS2.out]), HR.out.2.2⟩
            case measure => simp [intOf]; omega
          | true =>
            cases jb with
            | false =>
              have HS2 := hid (show ∀ j, M.leadR l (p + 1) j = M.leadR l p j by intro j; rw [HS.out]; simp)
              clear HS HN
              go_wp2_with fail
              refine (HJm.out _).mono ?_
              rintro e w3 ⟨rfl, hb⟩
              have HR3 := hid (show Row w3 gr k (fun j => .bool (M.rch l j)) ∧ Row w3 w.heap.size k (fun j => .bool (M.leadR l p j)) ∧ Below w.heap.size w w3 from ⟨HR.out.1.below hb, HR.out.2.1.below hb, (stp (hid HR.out.2.2) hb).out⟩)
              clear hb HR q0 q1 q2 q3 cr
              go_wp2
              go_roundw
              case rel => exact ⟨p + 1, by omega, by go_num, HR3.out.1, HR3.out.2.1.congr (fun j _ => by rw [HS2.out]), HR3.out.2.2⟩
              case measure => simp [intOf]; omega
            | true =>
              have HS2 := hid (show ∀ j, M.leadR l (p + 1) j = (M.leadR l p j || js.contains j) by intro j; rw [HS.out]; simp)
              have HMM := hid hm
              clear HS hm
              go_wp2_with fail
              refine (HJm.out _).mono ?_
              rintro e w3 ⟨rfl, hb⟩
              have HR3 := hid (show Row w3 gr k (fun j => .bool (M.rch l j)) ∧ Row w3 w.heap.size k (fun j => .bool (M.leadR l p j)) ∧ Below w.heap.size w w3 from ⟨HR.out.1.below hb, HR.out.2.1.below hb, (stp (hid HR.out.2.2) hb).out⟩)
              clear hb HR q0 q1 q2 q3 cr HJm
              go_wp2_with fail
              refine (HN.out _ (HH.out.2.2.1.far HR3.out.2.2 hbl)).mono ?_
              rintro e w4 ⟨a, ca, rfl, hnx, hfr, hb⟩
              have HI := hid (show Row w4 gr k (fun j => .bool (M.rch l j)) ∧ Row w4 w.heap.size k (fun j => .bool (M.leadR l p j || (js.take 0).contains j)) ∧ Below w.heap.size w w4 ∧ Nx w4 a js from
                ⟨HR3.out.1.below hb, (HR3.out.2.1.below hb).congr (fun j _ => by simp), (stp (hid HR3.out.2.2) hb).out, hnx⟩)
              have HGN := hid (show ∀ A, a = some A → A.block ≠ w.heap.size from fun A hA => by have := hfr A hA; have := HR3.out.2.1.lt; omega)
              clear hb hnx hfr HN HR3
              go_wp2
              go_loopw [51] (fun i wr => ∃ q : Nat, q ≤ m ∧ i = .int .i64 q ∧ Hid (Row wr gr k (fun j => .bool (M.rch l j)) ∧ Row wr w.heap.size k (fun j => .bool (M.leadR l p j || (js.take q).contains j)) ∧ Below w.heap.size w wr ∧ Nx wr a js)) (fun i _ => m - (intOf i).toNat)
              case atStart => exact ⟨0, Nat.zero_le _, rfl, HI.out⟩
              case round =>
                clear HI
                obtain ⟨q, hq, rfl, HQ⟩ := hrel
                by_cases hq2 : q < m
                · have i3 : (q : Int) < (m : Int) := by omega
                  have hqj : q < js.length := by rw [HMM.out]; exact hq2
                  obtain ⟨g', rfl⟩ : ∃ g', a = some ⟨g', 0, none⟩ := by
                    rcases HQ.out.2.2.2 with h | ⟨g', e, _⟩
                    · rw [h] at hqj; simp at hqj
                    · exact ⟨g', e⟩
                  have cy := nx_get HQ.out.2.2.2 q hqj
                  obtain ⟨y, hy⟩ : ∃ y, js[q] = y := ⟨_, rfl⟩
                  rw [hy] at cy
                  have hyn : y < k := HJ.out y (by rw [← hy]; exact List.getElem_mem hqj)
                  have i4 : (y : Int) < (k : Int) := by omega
                  have HT := hid (show ∀ j, (js.take (q + 1)).contains j = ((js.take q).contains j || decide (j = y)) by
                    intro j
                    rw [Bool.eq_iff_iff, Bool.or_eq_true, List.contains_iff_mem, List.contains_iff_mem, decide_eq_true_eq, M.take_succ_mem hqj, hy])
                  have cR := HQ.out.2.1.cell y hyn
                  have fR := HQ.out.2.1.froz y hyn
                  clear hy
                  go_wp2
                  go_roundw
                  case rel => exact ⟨q + 1, by omega, by go_num, HQ.out.1.other _ _ _ (by omega), (HQ.out.2.1.set y hyn _).congr (fun j hj => by
                    rw [HT.out j]
                    by_cases e : j = y
                    · simp [e]
                    · simp [e]), HQ.out.2.2.1.setCell (Nat.le_refl _) _, HQ.out.2.2.2.off HGN.out⟩
                  case measure => simp [intOf]; omega
                · obtain rfl : q = m := by omega
                  have HF := hid (show Row wr w.heap.size k (fun j => .bool (M.leadR l (p + 1) j)) from HQ.out.2.1.congr fun j _ => by rw [HS2.out j, ← HMM.out, List.take_length])
                  go_wp2
                  go_roundw
                  case rel => exact ⟨p + 1, by omega, by go_num, HQ.out.1, HF.out, HQ.out.2.2.1⟩
                  case measure => simp [intOf]; omega
        · obtain rfl : p = k := by omega
          have HF := hid (show Row wr w.heap.size p (fun j => .bool (M.lead l j)) from HR.out.2.1.congr fun j hj => by rw [M.leadR_all HH.out.1])
          go_wp2
          go_ret
          exact ⟨w.heap.size, rfl, HF.out, HR.out.2.2, Nat.le_refl _⟩
end Go.Proofs.Ythfneidbaiebhaa.B
