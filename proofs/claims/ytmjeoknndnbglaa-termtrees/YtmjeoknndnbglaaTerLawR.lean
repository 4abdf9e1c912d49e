/-
  The walk of the statement TermTrees, over what the program's own functions answer.
-/
import Derived.Test.YtmjeoknndnbglaaTerPool
namespace Go.Proofs.Ytmjeoknndnbglaa.TB
open Go.ChangeShapes Go.WideShapes Go.ChangeAt Go.RowKit
open Go.Sort hiding Below
set_option linter.unusedVariables false
set_option maxRecDepth 100000

set_option maxHeartbeats 1600000 in
set_option maxRecDepth 100000 in
theorem ttree_big (hAw : Aw11) (A : Option Addr) (n cap : Nat) (hn : 20 < n) (w : World) :
    Calls Try.prog 8 #[.slice A n cap] w fun e w' => e = .returned (.bool true) ∧ Below w.heap.size w w' := by
  have hd : decide (20 < (n : Int)) = true := decide_eq_true (by omega)
  have HB := hid (Below.refl w.heap.size w)
  have HAw := hid hAw
  clear hn hAw
  go_enter Try.func8, Try.ntmps8
  go_wp2_with fail
  refine (HAw.out _).mono ?_
  rintro e w1 ⟨rfl, hb⟩
  replace HB := stp HB hb
  clear hb
  go_wp2_with fail
  refine (HAw.out _).mono ?_
  rintro e w2 ⟨rfl, hb⟩
  replace HB := stp HB hb
  clear hb
  go_wp2
  go_ret
  exact ⟨rfl, HB.out⟩
set_option maxHeartbeats 1600000 in
set_option maxRecDepth 100000 in
theorem ttree_bad (hAw : Aw11) (A : Option Addr) (n cap : Nat) (l : List TM.N) (hln : l.length = n) (hn : n ≤ 20) (ok : ∀ x ∈ l, TM.okN x) (hr : TM.rowB l = false) (w : World) (hl : LiesN w A l) :
    Calls Try.prog 8 #[.slice A n cap] w fun e w' => e = .returned (.bool true) ∧ Below w.heap.size w w' := by
  have hd : decide (20 < (n : Int)) = false := decide_eq_false (by omega)
  have HB := hid (Below.refl w.heap.size w)
  have HAw := hid hAw
  have HRt := hid (fun W (h : LiesN W A l) => rrow_any A n cap l hln (by omega) ok W h false hr)
  have HL := hid hl
  clear hn hAw hln ok hr hl
  go_enter Try.func8, Try.ntmps8
  go_wp2_with fail
  refine (HAw.out _).mono ?_
  rintro e w1 ⟨rfl, hb⟩
  replace HB := stp HB hb
  clear hb
  go_wp2_with fail
  refine (HRt.out _ (HL.out.below HB.out)).mono ?_
  rintro e w2 ⟨rfl, hb⟩
  replace HB := stp HB hb
  clear hb
  go_wp2_with fail
  refine (HAw.out _).mono ?_
  rintro e w3 ⟨rfl, hb⟩
  replace HB := stp HB hb
  clear hb
  go_wp2
  go_ret
  exact ⟨rfl, HB.out⟩

set_option maxHeartbeats 6400000 in
set_option maxRecDepth 1000000 in
theorem ttree_good (hAw : Aw11) {Pl : PoolIs} (hPl : PoolOk Pl) (hAl : AlOk) (A : Option Addr) (n cap : Nat) (l : List TM.N) (hln : l.length = n) (hn : n ≤ 20) (ok : ∀ x ∈ l, TM.okN x) (hrb : TM.rowB l = true) (w : World) (hl : LiesN w A l) :
    Calls Try.prog 8 #[.slice A n cap] w fun e w' => e = .returned (.bool true) ∧ Below w.heap.size w w' := by
  have hd : decide (20 < (n : Int)) = false := decide_eq_false (by omega)
  have hr := TM.row_iff.1 hrb
  have HB := hid (Below.refl w.heap.size w)
  have HAw := hid hAw
  have HP := hid hPl
  have HRt := hid (fun W (h : LiesN W A l) => rrow_any A n cap l hln (by omega) ok W h true hrb)
  have HInto := hid (fun W (h : LiesN W A l) (hb : 0 < n → ∀ B, A = some B → B.block < W.heap.size) => rinto_any W.heap.size 0 0 none [] A n cap l hln hr ok TM.row_nil TM.once_nil (by simp) (by simp; omega) W h (Nat.le_refl _) hb (OwnN.nil W _))
  have HAl := hid (fun i j (hi : i < n) (hj : j < n) W (h : LiesN W A l) => hAl A n cap l i j hln hr ok hi hj W h)
  have hI := fun i (hi : i ≤ n) => TM.pl_inv (P := []) hr ok TM.row_nil TM.once_nil (by simp) (by simp; omega) i (by omega)
  have HI := hid hI
  have HH := hid (And.intro hln (And.intro ok (And.intro hl hr)))
  clear hAw hPl hAl hln ok hrb hr hl hI
  go_enter Try.func8, Try.ntmps8
  go_wp2_with fail
  refine (HAw.out _).mono ?_
  rintro e w1 ⟨rfl, hb⟩
  replace HB := stp HB hb
  clear hb HAw
  go_wp2_with fail
  refine (HRt.out _ (HH.out.2.2.1.below HB.out)).mono ?_
  rintro e w2 ⟨rfl, hb⟩
  replace HB := stp HB hb
  clear hb HRt
  have hAb : 0 < n → ∀ B, A = some B → B.block < w2.heap.size := fun h0 B hB => by
    have := HB.out.size
    obtain ⟨b, o, e, h⟩ := HH.out.2.2.1.ly (by rw [HH.out.1]; exact h0)
    rw [e] at hB; cases hB
    exact Nat.lt_of_lt_of_le h.1 this
  go_wp2_with fail
  refine (HInto.out _ (HH.out.2.2.1.below HB.out) hAb).mono ?_
  rintro e w3 ⟨a3, m3, c3, rfl, _, hR3, hgr3, _⟩
  have hb3 := gbelow hgr3 (Nat.le_refl _) (fun k hk => by cases hk)
  obtain ⟨g, hg⟩ : ∃ g, w2.heap.size = g := ⟨_, rfl⟩
  have HR := hid (show Row w3 g n (fun j => .int .i64 ((TM.plc [] l j : Nat) : Int)) ∧ Below w.heap.size w w3 ∧ w.heap.size ≤ g from ⟨by rw [← hg]; exact hR3, (stp HB hb3).out, by rw [← hg]; exact HB.out.size⟩)
  rw [hg]
  clear hAb HInto hR3 hgr3 hb3 HB hg
  go_wp2_with fail
  refine (HP.out.new _).mono ?_
  rintro e w4 ⟨v, F, rfl, hpl, hb, hF⟩
  have HM := hid (show Row w4 g n (fun j => .int .i64 ((TM.plc [] l j : Nat) : Int)) ∧ Below w.heap.size w w4 ∧ Pl w4 F v (TM.pl [] l 0) ∧ (∀ b, F b → w.heap.size ≤ b ∧ b ≠ g) from
    ⟨HR.out.1.below hb, (stp (hid HR.out.2.1) hb).out, hpl, fun b hf => by have h1 := hF b hf; have h2 := HR.out.1.lt; have h3 := HR.out.2.1.size; omega⟩)
  have hgw := HR.out.2.2
  clear hpl hb hF HR
  go_wp2
  go_loopw [36] (fun iv wr => ∃ (k : Nat) (F : Nat → Prop), k ≤ n ∧ iv = .int .i64 k ∧ Hid (Row wr g n (fun j => .int .i64 ((TM.plc [] l j : Nat) : Int)) ∧ Below w.heap.size w wr ∧ Pl wr F v (TM.pl [] l k) ∧ (∀ b, F b → w.heap.size ≤ b ∧ b ≠ g))) (fun iv _ => n - (intOf iv).toNat)
  case atStart => exact ⟨0, F, Nat.zero_le _, rfl, HM.out⟩
  case round =>
    clear HM
    obtain ⟨k, F, hk, rfl, HR⟩ := hrel
    by_cases hlt : k < n
    · have i2 : (k : Int) < (n : Int) := by omega
      have hkl : k < l.length := by rw [HH.out.1]; exact hlt
      obtain ⟨b, o, rfl, hly⟩ := HH.out.2.2.1.ly (by omega)
      obtain ⟨x, hx⟩ : ∃ x, l[k] = x := ⟨_, rfl⟩
      have h0x : TM.nat0 l k = x := by rw [TM.nat0_eq hkl]; exact hx
      obtain ⟨q0, q1, q2, q3⟩ := (by rw [← hx]; exact (hly.far HR.out.2.1 hly.1).2 k hkl : NodeAt wr b o k x)
      have hm := TM.may_ok (by rw [← h0x]; exact HH.out.2.2.2.2 k hkl : TM.may x k = true)
      have hmv : TM.mv [] l k = TM.moved x (TM.plc [] l) := by unfold TM.mv; rw [h0x]
      have hinv := HI.out k (by omega)
      have hlen : (TM.pl [] l k).length ≤ k := by simpa using hinv.1
      have hlt' : ∀ j ∈ TM.parts x, TM.plc [] l j < (TM.pl [] l k).length := fun j hj => (hinv.2.2.2.2.1 j (by rw [← h0x] at hj; exact TM.parts_lt (HH.out.2.2.2.2 k hkl) hj)).1
      have hmay : TM.may (TM.mv [] l k) (TM.pl [] l k).length = true := by rw [hmv]; exact TM.moved_may (by rw [← h0x]; exact HH.out.2.2.2.2 k hkl) hlt'
      have hokm : TM.okN (TM.mv [] l k) := by rw [hmv]; exact TM.moved_ok (by rw [← h0x]; exact TM.nat0_ok HH.out.2.1 k) (m := (TM.pl [] l k).length) (by omega) hlt'
      have hg2 : ∀ ob : Obj, Row (wr.alloc ob) g n (fun j => .int .i64 ((TM.plc [] l j : Nat) : Int)) := fun ob => HR.out.1.below (al wr ob)
      have HPut := hid (fun (xo xa xb xk : Int) (ob : Obj) (hy : TM.mv [] l k = (xo, xa, xb, xk)) => HP.out.put (wr.alloc ob) F v (TM.pl [] l k) xo xa xb xk (hy ▸ hokm) (HP.out.below HR.out.2.2.1 (al wr ob)) (hy ▸ hmay) (by omega) (TM.pl [] l (k + 1)) (TM.plc [] l k) (by rw [TM.pl_succ HH.out.2.2.2 hkl, TM.plc_eq HH.out.2.2.2 hkl, hy]))
      have HEnd := hid (fun (ob : Obj) (W : World) (F' : Nat → Prop) (hfr : Fr (wr.alloc ob) W F) (hF : ∀ b, F' b → F b ∨ (wr.alloc ob).heap.size ≤ b) => (show Row W g n (fun j => .int .i64 ((TM.plc [] l j : Nat) : Int)) ∧ Below w.heap.size w W ∧ (∀ b, F' b → w.heap.size ≤ b ∧ b ≠ g) from by
        have hsz := (al wr ob).size
        have hws := HR.out.2.1.size
        have hgl := HR.out.1.lt
        refine ⟨(hg2 ob).fr hfr (fun h => (HR.out.2.2.2 g h).2 rfl), hfr.below (stp (hid HR.out.2.1) (al wr ob)).out (fun b hb => (HR.out.2.2.2 b hb).1) (by omega), fun b hb => ?_⟩
        rcases hF b hb with h | h
        · exact HR.out.2.2.2 b h
        · omega))
      clear hx h0x hly HR hinv hmay hokm hlt' hlen
      obtain ⟨xo, xa, xb, xk⟩ := x
      simp only at q0 q1 q2 q3 hm
      by_cases h2 : xo ≤ 2
      · have d1 : decide (2 < xo) = false := decide_eq_false (by omega)
        have hy : TM.mv [] l k = (xo, xa, xb, xk) := by rw [hmv]; unfold TM.moved; rw [if_pos h2]
        clear hmv hm h2 hg2
        go_wp2_with fail
        refine (HPut.out xo xa xb xk _ hy).mono ?_
        rintro e w5 ⟨F', rfl, hpl, hfr, hF⟩
        obtain ⟨hR5, hB5, hF5⟩ := HEnd.out _ w5 F' hfr hF
        have HM := hid (And.intro hR5 (And.intro hB5 (And.intro hpl hF5)))
        clear hpl hfr hF hR5 hB5 hF5 HPut HEnd hy q0 q1 q2 q3 
        have ck := HM.out.1.cell k hlt
        obtain ⟨pk, hpk⟩ : ∃ pk, TM.plc [] l k = pk := ⟨_, rfl⟩
        rw [hpk] at ck
        have hnn : ∀ z : Int, (z != z) = false := fun z => by simp
        have HPk := hid hpk
        rw [hpk]
        clear hpk
        go_wp2
        clear ck
        go_loopw [77] (fun jv wr => ∃ (j : Nat), j ≤ k + 1 ∧ jv = .int .i64 j ∧ Hid (Row wr g n (fun j => .int .i64 ((TM.plc [] l j : Nat) : Int)) ∧ Below w.heap.size w wr ∧ Pl wr F' v (TM.pl [] l (k + 1)) ∧ (∀ b, F' b → w.heap.size ≤ b ∧ b ≠ g))) (fun jv _ => k + 1 - (intOf jv).toNat)
        case atStart => exact ⟨0, Nat.zero_le _, rfl, HM.out⟩
        case round =>
          clear HM
          obtain ⟨j, hj, rfl, HR⟩ := hrel
          by_cases hj2 : j < k + 1
          · have i5 : (j : Int) < (k : Int) + 1 := by omega
            have HA1 := hid (HAl.out k j hlt (by omega))
            have HA2 := hid (HAl.out j k (by omega) hlt)
            obtain ⟨pj, hpj⟩ : ∃ pj, TM.plc [] l j = pj := ⟨_, rfl⟩
            obtain ⟨q, hq⟩ : ∃ q, decide (pk = pj) = q := ⟨_, rfl⟩
            have hq2 : decide (pj = pk) = q := by rw [← hq]; exact decide_eq_decide.2 ⟨Eq.symm, Eq.symm⟩
            rw [HPk.out, hpj] at HA1 HA2
            rw [hq] at HA1
            rw [hq2] at HA2
            have hq3 : ((pk : Int) == (pj : Int)) = q := by rw [← hq, Bool.eq_iff_iff]; simp; omega
            have HPj := hid hpj
            clear hq hq2 hpj
            go_wp2_with fail
            refine (HA1.out _ (HH.out.2.2.1.below HR.out.2.1)).mono ?_
            rintro e w6 ⟨rfl, hb⟩
            replace HR := hid (And.intro (HR.out.1.below hb) (And.intro (stp (hid HR.out.2.1) hb).out (And.intro (HP.out.below HR.out.2.2.1 hb) HR.out.2.2.2)))
            clear hb HA1
            go_wp2_with fail
            refine (HA2.out _ (HH.out.2.2.1.below HR.out.2.1)).mono ?_
            rintro e w7 ⟨rfl, hb⟩
            replace HR := hid (And.intro (HR.out.1.below hb) (And.intro (stp (hid HR.out.2.1) hb).out (And.intro (HP.out.below HR.out.2.2.1 hb) HR.out.2.2.2)))
            clear hb HA2
            have ck := HR.out.1.cell k hlt
            have cj := HR.out.1.cell j (by omega)
            rw [HPk.out] at ck
            rw [HPj.out] at cj
            have i6 : (j : Int) < (n : Int) := by omega
            have hqq : (q != q) = false := by simp
            cases q
            all_goals
              go_wp2
              go_quiet (fail)
              go_wp2
              go_roundw
              case rel => exact ⟨j + 1, by omega, by go_num, HR.out.1.below (bdrew (Below.refl _ _) nq), bdrew HR.out.2.1 nq, HP.out.below HR.out.2.2.1 (bdrew (Below.refl _ _) nq), HR.out.2.2.2⟩
              case measure => simp [intOf]; omega
          · obtain rfl : j = k + 1 := by omega
            go_wp2
            go_roundw
            case rel => exact ⟨k + 1, F', by omega, by go_num, HR.out⟩
            case measure => simp [intOf]; omega
      · have d1 : decide (2 < xo) = true := decide_eq_true (by omega)
        have ha : 0 ≤ xa ∧ xa < k := by rcases hm with h | h | h | h <;> omega
        obtain ⟨ap, rfl⟩ : ∃ ap : Nat, xa = ap := ⟨xa.toNat, by omega⟩
        have i3 : (ap : Int) < (n : Int) := by omega
        have hca : ∀ ob, (wr.alloc ob).cell? ⟨g, ap, none⟩ = some (.int .i64 ((TM.plc [] l ap : Nat) : Int)) := fun ob => (hg2 ob).cell ap (by omega)
        by_cases h3 : xo = 384
        · subst h3
          have hy : TM.mv [] l k = (384, ((TM.plc [] l ap : Nat) : Int), xb, xk) := by rw [hmv]; unfold TM.moved; rw [if_neg h2, if_pos rfl]; simp
          clear hmv hm h2 hg2
          go_wp2_with fail
          refine (HPut.out 384 _ xb xk _ hy).mono ?_
          rintro e w5 ⟨F', rfl, hpl, hfr, hF⟩
          obtain ⟨hR5, hB5, hF5⟩ := HEnd.out _ w5 F' hfr hF
          have HM := hid (And.intro hR5 (And.intro hB5 (And.intro hpl hF5)))
          clear hpl hfr hF hR5 hB5 hF5 HPut HEnd hy q0 q1 q2 q3 hca
          have ck := HM.out.1.cell k hlt
          obtain ⟨pk, hpk⟩ : ∃ pk, TM.plc [] l k = pk := ⟨_, rfl⟩
          rw [hpk] at ck
          have hnn : ∀ z : Int, (z != z) = false := fun z => by simp
          have HPk := hid hpk
          rw [hpk]
          clear hpk
          go_wp2
          clear ck
          go_loopw [77] (fun jv wr => ∃ (j : Nat), j ≤ k + 1 ∧ jv = .int .i64 j ∧ Hid (Row wr g n (fun j => .int .i64 ((TM.plc [] l j : Nat) : Int)) ∧ Below w.heap.size w wr ∧ Pl wr F' v (TM.pl [] l (k + 1)) ∧ (∀ b, F' b → w.heap.size ≤ b ∧ b ≠ g))) (fun jv _ => k + 1 - (intOf jv).toNat)
          case atStart => exact ⟨0, Nat.zero_le _, rfl, HM.out⟩
          case round =>
            clear HM
            obtain ⟨j, hj, rfl, HR⟩ := hrel
            by_cases hj2 : j < k + 1
            · have i5 : (j : Int) < (k : Int) + 1 := by omega
              have HA1 := hid (HAl.out k j hlt (by omega))
              have HA2 := hid (HAl.out j k (by omega) hlt)
              obtain ⟨pj, hpj⟩ : ∃ pj, TM.plc [] l j = pj := ⟨_, rfl⟩
              obtain ⟨q, hq⟩ : ∃ q, decide (pk = pj) = q := ⟨_, rfl⟩
              have hq2 : decide (pj = pk) = q := by rw [← hq]; exact decide_eq_decide.2 ⟨Eq.symm, Eq.symm⟩
              rw [HPk.out, hpj] at HA1 HA2
              rw [hq] at HA1
              rw [hq2] at HA2
              have hq3 : ((pk : Int) == (pj : Int)) = q := by rw [← hq, Bool.eq_iff_iff]; simp; omega
              have HPj := hid hpj
              clear hq hq2 hpj
              go_wp2_with fail
              refine (HA1.out _ (HH.out.2.2.1.below HR.out.2.1)).mono ?_
              rintro e w6 ⟨rfl, hb⟩
              replace HR := hid (And.intro (HR.out.1.below hb) (And.intro (stp (hid HR.out.2.1) hb).out (And.intro (HP.out.below HR.out.2.2.1 hb) HR.out.2.2.2)))
              clear hb HA1
              go_wp2_with fail
              refine (HA2.out _ (HH.out.2.2.1.below HR.out.2.1)).mono ?_
              rintro e w7 ⟨rfl, hb⟩
              replace HR := hid (And.intro (HR.out.1.below hb) (And.intro (stp (hid HR.out.2.1) hb).out (And.intro (HP.out.below HR.out.2.2.1 hb) HR.out.2.2.2)))
              clear hb HA2
              have ck := HR.out.1.cell k hlt
              have cj := HR.out.1.cell j (by omega)
              rw [HPk.out] at ck
              rw [HPj.out] at cj
              have i6 : (j : Int) < (n : Int) := by omega
              have hqq : (q != q) = false := by simp
              cases q
              all_goals
                go_wp2
                go_quiet (fail)
                go_wp2
                go_roundw
                case rel => exact ⟨j + 1, by omega, by go_num, HR.out.1.below (bdrew (Below.refl _ _) nq), bdrew HR.out.2.1 nq, HP.out.below HR.out.2.2.1 (bdrew (Below.refl _ _) nq), HR.out.2.2.2⟩
                case measure => simp [intOf]; omega
            · obtain rfl : j = k + 1 := by omega
              go_wp2
              go_roundw
              case rel => exact ⟨k + 1, F', by omega, by go_num, HR.out⟩
              case measure => simp [intOf]; omega
        · have d3 : (xo != 384) = true := by simp [bne, h3]
          have hb2 : 0 ≤ xb ∧ xb < k := by rcases hm with h | h | h | h <;> omega
          obtain ⟨bp, rfl⟩ : ∃ bp : Nat, xb = bp := ⟨xb.toNat, by omega⟩
          have i4 : (bp : Int) < (n : Int) := by omega
          have hcb : ∀ ob, (wr.alloc ob).cell? ⟨g, bp, none⟩ = some (.int .i64 ((TM.plc [] l bp : Nat) : Int)) := fun ob => (hg2 ob).cell bp (by omega)
          have hy : TM.mv [] l k = (xo, ((TM.plc [] l ap : Nat) : Int), ((TM.plc [] l bp : Nat) : Int), xk) := by rw [hmv]; unfold TM.moved; rw [if_neg h2, if_neg h3]; simp
          clear hmv hm h2 h3 hg2
          go_wp2_with fail
          refine (HPut.out xo _ _ xk _ hy).mono ?_
          rintro e w5 ⟨F', rfl, hpl, hfr, hF⟩
          obtain ⟨hR5, hB5, hF5⟩ := HEnd.out _ w5 F' hfr hF
          have HM := hid (And.intro hR5 (And.intro hB5 (And.intro hpl hF5)))
          clear hpl hfr hF hR5 hB5 hF5 HPut HEnd hy q0 q1 q2 q3 hca hcb
          have ck := HM.out.1.cell k hlt
          obtain ⟨pk, hpk⟩ : ∃ pk, TM.plc [] l k = pk := ⟨_, rfl⟩
          rw [hpk] at ck
          have hnn : ∀ z : Int, (z != z) = false := fun z => by simp
          have HPk := hid hpk
          rw [hpk]
          clear hpk
          go_wp2
          clear ck
          go_loopw [77] (fun jv wr => ∃ (j : Nat), j ≤ k + 1 ∧ jv = .int .i64 j ∧ Hid (Row wr g n (fun j => .int .i64 ((TM.plc [] l j : Nat) : Int)) ∧ Below w.heap.size w wr ∧ Pl wr F' v (TM.pl [] l (k + 1)) ∧ (∀ b, F' b → w.heap.size ≤ b ∧ b ≠ g))) (fun jv _ => k + 1 - (intOf jv).toNat)
          case atStart => exact ⟨0, Nat.zero_le _, rfl, HM.out⟩
          case round =>
            clear HM
            obtain ⟨j, hj, rfl, HR⟩ := hrel
            by_cases hj2 : j < k + 1
            · have i5 : (j : Int) < (k : Int) + 1 := by omega
              have HA1 := hid (HAl.out k j hlt (by omega))
              have HA2 := hid (HAl.out j k (by omega) hlt)
              obtain ⟨pj, hpj⟩ : ∃ pj, TM.plc [] l j = pj := ⟨_, rfl⟩
              obtain ⟨q, hq⟩ : ∃ q, decide (pk = pj) = q := ⟨_, rfl⟩
              have hq2 : decide (pj = pk) = q := by rw [← hq]; exact decide_eq_decide.2 ⟨Eq.symm, Eq.symm⟩
              rw [HPk.out, hpj] at HA1 HA2
              rw [hq] at HA1
              rw [hq2] at HA2
              have hq3 : ((pk : Int) == (pj : Int)) = q := by rw [← hq, Bool.eq_iff_iff]; simp; omega
              have HPj := hid hpj
              clear hq hq2 hpj
              go_wp2_with fail
              refine (HA1.out _ (HH.out.2.2.1.below HR.out.2.1)).mono ?_
              rintro e w6 ⟨rfl, hb⟩
              replace HR := hid (And.intro (HR.out.1.below hb) (And.intro (stp (hid HR.out.2.1) hb).out (And.intro (HP.out.below HR.out.2.2.1 hb) HR.out.2.2.2)))
              clear hb HA1
              go_wp2_with fail
              refine (HA2.out _ (HH.out.2.2.1.below HR.out.2.1)).mono ?_
              rintro e w7 ⟨rfl, hb⟩
              replace HR := hid (And.intro (HR.out.1.below hb) (And.intro (stp (hid HR.out.2.1) hb).out (And.intro (HP.out.below HR.out.2.2.1 hb) HR.out.2.2.2)))
              clear hb HA2
              have ck := HR.out.1.cell k hlt
              have cj := HR.out.1.cell j (by omega)
              rw [HPk.out] at ck
              rw [HPj.out] at cj
              have i6 : (j : Int) < (n : Int) := by omega
              have hqq : (q != q) = false := by simp
              cases q
              all_goals
                go_wp2
                go_quiet (fail)
                go_wp2
                go_roundw
                case rel => exact ⟨j + 1, by omega, by go_num, HR.out.1.below (bdrew (Below.refl _ _) nq), bdrew HR.out.2.1 nq, HP.out.below HR.out.2.2.1 (bdrew (Below.refl _ _) nq), HR.out.2.2.2⟩
                case measure => simp [intOf]; omega
            · obtain rfl : j = k + 1 := by omega
              go_wp2
              go_roundw
              case rel => exact ⟨k + 1, F', by omega, by go_num, HR.out⟩
              case measure => simp [intOf]; omega
    · obtain rfl : k = n := by omega
      go_wp2
      go_ret
      exact ⟨rfl, HR.out.2.1⟩
theorem ttree_law (hAw : Aw11) {Pl : PoolIs} (hPl : PoolOk Pl) (hAl : AlOk) (A : Option Addr) (cap : Nat) (l : List TM.N) (ok : ∀ x ∈ l, TM.okN x) (w : World) (hl : LiesN w A l) :
    Calls Try.prog 8 #[.slice A l.length cap] w fun e w' => e = .returned (.bool true) ∧ Below w.heap.size w w' := by
  by_cases h : 20 < l.length
  · exact ttree_big hAw A l.length cap h w
  · cases hr : TM.rowB l with
    | false => exact ttree_bad hAw A l.length cap l rfl (by omega) ok hr w hl
    | true => exact ttree_good hAw hPl hAl A l.length cap l rfl (by omega) ok hr w hl
end Go.Proofs.Ytmjeoknndnbglaa.TB
