/-
  The walk of the statement TermUses, over what the program's own functions answer.
-/
import Derived.Test.YtmjeoknndnbglaaTerLawS
namespace Go.Proofs.Ytmjeoknndnbglaa.TM
/-- the second record, with the words of the first that are told -/
def mix (f : Nat → Bool) (r o : List Int) (k : Nat) : List Int := (List.range 16).map fun j => if j < k ∧ f j = true then r.getD j 0 else o.getD j 0
theorem mix_len (f : Nat → Bool) (r o : List Int) (k : Nat) : (mix f r o k).length = 16 := by simp [mix]
theorem mix_at (f : Nat → Bool) (r o : List Int) (k j : Nat) (hj : j < 16) : (mix f r o k).getD j 0 = if j < k ∧ f j = true then r.getD j 0 else o.getD j 0 := by
  unfold mix
  rw [List.getD_eq_getElem?_getD, List.getElem?_map, List.getElem?_range hj]
  rfl
theorem ext16 {a b : List Int} (ha : a.length = 16) (hb : b.length = 16) (h : ∀ j, j < 16 → a.getD j 0 = b.getD j 0) : a = b := by
  apply List.ext_getElem (by omega)
  intro j h1 h2
  have := h j (by omega)
  rw [List.getD_eq_getElem?_getD, List.getD_eq_getElem?_getD, List.getElem?_eq_getElem h1, List.getElem?_eq_getElem h2] at this
  exact this
theorem mix_zero (f : Nat → Bool) (r : List Int) {o : List Int} (ho : o.length = 16) : mix f r o 0 = o := ext16 (mix_len _ _ _ _) ho fun j hj => by rw [mix_at _ _ _ _ _ hj, if_neg (by omega)]
theorem mix_not (f : Nat → Bool) (r o : List Int) (k : Nat) (h : f k = false) : mix f r o (k + 1) = mix f r o k := ext16 (mix_len _ _ _ _) (mix_len _ _ _ _) fun j hj => by
  rw [mix_at _ _ _ _ _ hj, mix_at _ _ _ _ _ hj]
  by_cases e : j = k
  · subst e; rw [if_neg (by rw [h]; simp), if_neg (by omega)]
  · by_cases hl : j < k ∧ f j = true
    · rw [if_pos hl, if_pos ⟨by omega, hl.2⟩]
    · rw [if_neg hl, if_neg (fun h => hl ⟨by omega, h.2⟩)]
theorem mix_set (f : Nat → Bool) (r o : List Int) (k : Nat) (hk : k < 16) (h : f k = true) : (mix f r o k).set k (r.getD k 0) = mix f r o (k + 1) := ext16 (by rw [List.length_set]; exact mix_len _ _ _ _) (mix_len _ _ _ _) fun j hj => by
  rw [mix_at _ _ _ _ _ hj]
  by_cases e : j = k
  · subst e
    rw [if_pos ⟨by omega, h⟩, List.getD_eq_getElem?_getD, List.getElem?_set_self (by rw [mix_len]; exact hk)]
    rfl
  · rw [List.getD_eq_getElem?_getD, List.getElem?_set_ne (fun h => e h.symm), ← List.getD_eq_getElem?_getD, mix_at _ _ _ _ _ hj]
    by_cases hl : j < k ∧ f j = true
    · rw [if_pos hl, if_pos ⟨by omega, hl.2⟩]
    · rw [if_neg hl, if_neg (fun h => hl ⟨by omega, h.2⟩)]
theorem mix_ok {f : Nat → Bool} {r o : List Int} {k : Nat} (hr : R.okR r) (ho : R.okR o) : R.okR (mix f r o k) := ⟨mix_len _ _ _ _, fun i => by
  by_cases hi : i < 16
  · rw [mix_at f r o k i hi]
    split
    · exact hr.2 i
    · exact ho.2 i
  · rw [List.getD_eq_getElem?_getD, List.getElem?_eq_none (by rw [mix_len]; omega)]; decide⟩
theorem uses_same {l : List N} (hl : Row l) (r o : List Int) {t : Nat} (ht : t < l.length) : val l r t = val l (mix (uses l t).testBit r o 16) t :=
  val_same hl (t := t) (fun i hi hin h2 => by
    have hw := word_lt hl hi h2
    have hb : (uses l t).testBit (nat0 l i).2.2.2.toNat = true := (usesK_bit l t _ l.length).2 ⟨i, hi, hin, h2, rfl⟩
    rw [mix_at _ _ _ _ _ (by omega), if_pos ⟨by omega, hb⟩]) t ht (inT_self l t)
end Go.Proofs.Ytmjeoknndnbglaa.TM
namespace Go.Proofs.Ytmjeoknndnbglaa.TB
open Go.ChangeShapes Go.WideShapes Go.ChangeAt Go.RowKit
open Go.Sort hiding Below
set_option linter.unusedVariables false
set_option maxRecDepth 100000
theorem shr_bit (y d : Nat) (hy : y < 65536) (q : Bool) (hq : y.testBit d = q) : (bits .and .u16 ((y : Int) / 2 ^ d) 1 != 0) = q := by
  have e : (y : Int) / 2 ^ d = ((y / 2 ^ d : Nat) : Int) := by simp
  have hl : y / 2 ^ d < 65536 := Nat.lt_of_le_of_lt (Nat.div_le_self _ _) hy
  rw [← hq, e]
  generalize hz : y / 2 ^ d = z at *
  rw [u16_and _ _ (by omega) (by omega) (by omega) (by omega), Nat.testBit_eq_decide_div_mod_eq, hz]
  rw [show (1 : Int).toNat = 1 from rfl, Nat.and_one_is_mod]
  simp only [Int.toNat_natCast]
  rcases Nat.mod_two_eq_zero_or_one z with h | h <;> simp [h]
theorem rec_new (w : World) (m : List Int) (hm : m.length = 16) : ∃ W2, (storeCells ⟨w.heap.size, 0, none⟩ (RB.enc m).toList 0).run Try.prog (w.alloc (.cells (RB.enc R.zero) 25)) = .ok () W2 ∧
    RB.Rec W2 w.heap.size m ∧ (∀ b l, RB.Rec w b l → RB.Rec W2 b l) ∧ W2.heap.size = w.heap.size + 1 ∧ Below w.heap.size w W2 := by
  obtain ⟨W2, hst, hR, hO, hsz, hB⟩ := (RB.Rec.new w R.zero rfl).store (m := m) hm
  exact ⟨W2, hst, hR, fun b l h => hO b l (Nat.ne_of_lt h.lt) (h.alloc _), by rw [hsz]; simp, hB _ _ (Nat.le_refl _) ((Below.refl _ w).alloc (Nat.le_refl _) _)⟩

set_option maxHeartbeats 1600000 in
set_option maxRecDepth 100000 in
theorem tuses_big (hAw : Aw11) (A : Option Addr) (n cap : Nat) (r s : List Int) (hn : 40 < n) (w : World) :
    Calls Try.prog 4 #[.slice A n cap, .agg (RB.enc r), .agg (RB.enc s)] w fun e w' => e = .returned (.bool true) ∧ Below w.heap.size w w' := by
  have hd : decide (40 < (n : Int)) = true := decide_eq_true (by omega)
  have HB := hid ((al w (.cells (RB.enc r) 25)).trans ((al _ (.cells (RB.enc s) 25)).mono (al _ _).size))
  have HAw := hid hAw
  clear hn hAw
  go_enter Try.func4, Try.ntmps4
  go_wp2_with fail
  refine (HAw.out _).mono ?_
  rintro e w1 ⟨rfl, hb⟩
  replace HB := stp HB hb
  clear hb
  go_wp2_with fail
  refine (HAw.out _).mono ?_
  rintro e w2 ⟨rfl, hb⟩
  replace HB := stp HB hb
  clear hb
  go_wp2
  go_ret
  exact ⟨rfl, HB.out⟩
set_option maxHeartbeats 1600000 in
set_option maxRecDepth 100000 in
theorem tuses_bad (hAw : Aw11) (A : Option Addr) (n cap : Nat) (r s : List Int) (l : List TM.N) (hln : l.length = n) (hn : n ≤ 40) (ok : ∀ x ∈ l, TM.okN x) (hr : TM.rowB l = false) (w : World) (hl : LiesN w A l) :
    Calls Try.prog 4 #[.slice A n cap, .agg (RB.enc r), .agg (RB.enc s)] w fun e w' => e = .returned (.bool true) ∧ Below w.heap.size w w' := by
  have hd : decide (40 < (n : Int)) = false := decide_eq_false (by omega)
  have HB := hid ((al w (.cells (RB.enc r) 25)).trans ((al _ (.cells (RB.enc s) 25)).mono (al _ _).size))
  have HAw := hid hAw
  have HRt := hid (fun W (h : LiesN W A l) => rrow_any A n cap l hln (by omega) ok W h false hr)
  have HL := hid hl
  clear hn hAw hln ok hr hl
  go_enter Try.func4, Try.ntmps4
  go_wp2_with fail
  refine (HAw.out _).mono ?_
  rintro e w1 ⟨rfl, hb⟩
  replace HB := stp HB hb
  clear hb
  go_wp2_with fail
  refine (HRt.out _ (HL.out.below HB.out)).mono ?_
  rintro e w2 ⟨rfl, hb⟩
  replace HB := stp HB hb
  clear hb
  go_wp2_with fail
  refine (HAw.out _).mono ?_
  rintro e w3 ⟨rfl, hb⟩
  replace HB := stp HB hb
  clear hb
  go_wp2
  go_ret
  exact ⟨rfl, HB.out⟩

set_option maxHeartbeats 6400000 in
set_option maxRecDepth 1000000 in
theorem tuses_good (hAw : Aw11) (hUs : UsOk) (hVl : VlOk) (A : Option Addr) (n cap : Nat) (r s : List Int) (hkr : R.okR r) (hks : R.okR s) (l : List TM.N) (hln : l.length = n) (hn : n ≤ 40) (hcap : n ≤ cap) (ok : ∀ x ∈ l, TM.okN x) (hrb : TM.rowB l = true) (w : World) (hl : LiesN w A l) :
    Calls Try.prog 4 #[.slice A n cap, .agg (RB.enc r), .agg (RB.enc s)] w fun e w' => e = .returned (.bool true) ∧ Below w.heap.size w w' := by
  have hd : decide (40 < (n : Int)) = false := decide_eq_false (by omega)
  have hr := TM.row_iff.1 hrb
  have hX := RB.lcf_eq
  have hzl := RB.zero_lit
  have hzs := RB.zero_size
  have hs1 : (w.alloc (.cells (RB.enc r) 25)).heap.size = w.heap.size + 1 := by simp
  have hR1 := (RB.Rec.new w r hkr.1).alloc (.cells (RB.enc s) 25)
  have hR2 := RB.Rec.new (w.alloc (.cells (RB.enc r) 25)) s hks.1
  rw [hs1] at hR2
  have HG := hid (And.intro hR1 (And.intro hR2 ((al w (.cells (RB.enc r) 25)).trans ((al _ (.cells (RB.enc s) 25)).mono (al _ _).size))))
  have HAw := hid hAw
  have HRt := hid (fun W (h : LiesN W A l) => rrow_any A n cap l hln (by omega) ok W h true hrb)
  have HUs := hid (fun (k : Nat) (hk : k < n) W (h : LiesN W A l) => (by
    have := hUs A n cap l k hln (by omega) hcap ok (wf64 (by omega)) W h
    rw [atE_in hrb (by omega), if_pos rfl, show (k : Int).toNat = k by omega] at this
    exact this : Calls Try.prog 16 #[.slice A n cap, .int .i64 k] W fun e w' => e = .returned (.tuple #[.int .u16 ((TM.uses l k : Nat) : Int), .int .i64 0]) ∧ Below W.heap.size W w'))
  have HVl := hid (fun (q : List Int) (hq : R.okR q) (k : Nat) (hk : k < n) W (h : LiesN W A l) => (by
    have := hVl A n cap l q k hln (by omega) hcap ok hq (wf64 (by omega)) W h
    rw [atE_in hrb (by omega), if_pos rfl, show (k : Int).toNat = k by omega] at this
    exact this : Calls Try.prog 13 #[.slice A n cap, .int .i64 k, .agg (RB.enc q)] W fun e w' => e = .returned (.tuple #[.int .u32 (TM.val l q k), .int .i64 0]) ∧ Below W.heap.size W w'))
  have HRu := hid (fun b o (k : Nat) (hk : k < n) W (h : LyN W b o l) => ruses_any b o n cap k l hln hr ok hk W h)
  have HMx := hid (fun (k : Nat) (hk : k < n) => (show TM.uses l k < 65536 ∧ TM.val l r k = TM.val l (TM.mix (TM.uses l k).testBit r s 16) k from ⟨TM.usesK_lt hr k l.length (Nat.le_refl _), TM.uses_same hr r s (by omega)⟩))
  have HH := hid (And.intro hln (And.intro hl (And.intro hkr hks)))
  have hsz16 := RB.enc_size hkr.1
  have hsz16s := RB.enc_size hks.1
  clear hAw hUs hVl hln ok hrb hr hl hR1 hR2 hs1 hkr hks hcap
  go_enter Try.func4, Try.ntmps4
  go_wp2_with fail
  refine (HAw.out _).mono ?_
  rintro e w1 ⟨rfl, hb⟩
  replace HG := hid (And.intro (HG.out.1.below hb HG.out.1.lt) (And.intro (HG.out.2.1.below hb HG.out.2.1.lt) (stp (hid HG.out.2.2) hb).out))
  clear hb HAw
  go_wp2_with fail
  refine (HRt.out _ (HH.out.2.1.below HG.out.2.2)).mono ?_
  rintro e w2 ⟨rfl, hb⟩
  replace HG := hid (And.intro (HG.out.1.below hb HG.out.1.lt) (And.intro (HG.out.2.1.below hb HG.out.2.1.lt) (stp (hid HG.out.2.2) hb).out))
  clear hb HRt
  go_wp2
  go_loopw [31] (fun iv wr => ∃ (k : Nat), k ≤ n ∧ iv = .int .i64 k ∧ Hid (RB.Rec wr w.heap.size r ∧ RB.Rec wr (w.heap.size + 1) s ∧ Below w.heap.size w wr)) (fun iv _ => n - (intOf iv).toNat)
  case atStart => exact ⟨0, Nat.zero_le _, rfl, HG.out⟩
  case round =>
    clear HG
    obtain ⟨k, hk, rfl, HR⟩ := hrel
    by_cases hlt : k < n
    · have i2 : (k : Int) < (n : Int) := by omega
      have HU1 := hid (HUs.out k hlt)
      have hM := HMx.out k hlt
      have HV1 := hid (HVl.out r HH.out.2.2.1 k hlt)
      have HV2 := hid (HVl.out (TM.mix (TM.uses l k).testBit r s 16) (TM.mix_ok HH.out.2.2.1 HH.out.2.2.2) k hlt)
      rw [← hM.2] at HV2
      have hub := hM.1
      obtain ⟨v, hv⟩ : ∃ v, TM.val l r k = v := ⟨_, rfl⟩
      rw [hv] at HV1 HV2
      have HRu1 := hid (fun b o => HRu.out b o k hlt)
      obtain ⟨u, hu⟩ : ∃ u, TM.uses l k = u := ⟨_, rfl⟩
      rw [hu] at HU1 HV2 HRu1 hub
      have hszm : ∀ j, (RB.enc (TM.mix u.testBit r s j)).size = 16 := fun j => RB.enc_size (TM.mix_len _ _ _ _)
      clear hM hv hu
      go_wp2_with fail
      refine (HU1.out _ (HH.out.2.1.below HR.out.2.2)).mono ?_
      rintro e w3 ⟨rfl, hb⟩
      have HG := hid (And.intro (HR.out.1.below hb HR.out.1.lt) (And.intro (HR.out.2.1.below hb HR.out.2.1.lt) (stp (hid HR.out.2.2) hb).out))
      clear hb HU1 HR
      have hld2 := HG.out.2.1.load
      obtain ⟨W4, hst4, hR4, hO4, hsz4, hb4⟩ := rec_new w3 s HH.out.2.2.2.1
      have HG4 := hid (show RB.Rec W4 w.heap.size r ∧ RB.Rec W4 (w.heap.size + 1) s ∧ RB.Rec W4 w3.heap.size (TM.mix u.testBit r s 0) ∧ Below w.heap.size w W4 from ⟨hO4 _ _ HG.out.1, hO4 _ _ HG.out.2.1, by rw [TM.mix_zero _ _ HH.out.2.2.2.1]; exact hR4, (stp (hid HG.out.2.2) hb4).out⟩)
      have hg1 : w.heap.size + 1 < w3.heap.size := HG.out.2.1.lt
      clear hR4 hO4 hsz4 hb4 HG
      go_wp2
      clear hst4 hld2
      go_loopw [41] (fun kv wq => ∃ j : Nat, kv = .int .i64 j ∧ j ≤ 16 ∧ Hid (RB.Rec wq w.heap.size r ∧ RB.Rec wq (w.heap.size + 1) s ∧ RB.Rec wq w3.heap.size (TM.mix u.testBit r s j) ∧ Below w.heap.size w wq)) (fun kv _ => 16 - (intOf kv).toNat)
      case atStart => exact ⟨0, rfl, by omega, HG4.out⟩
      case round =>
        clear HG4
        obtain ⟨j, rfl, hj, HR⟩ := hrel
        by_cases hlt2 : j < 16
        · have i3 : (j : Int) < 16 := by omega
          cases hf : u.testBit j with
          | true =>
            have hbit := shr_bit u j hub true hf
            have c2 := HR.out.1.cell j hlt2
            have c3 := HR.out.2.2.1.frozen j
            have c4 := HR.out.2.2.1.cell j hlt2
            obtain ⟨W5, hW5, hR5, hoth5, hsize5, hB5⟩ := HR.out.2.2.1.set j (R.at_ r j)
            have HF := hid (show RB.Rec W5 w.heap.size r ∧ RB.Rec W5 (w.heap.size + 1) s ∧ RB.Rec W5 w3.heap.size (TM.mix u.testBit r s (j + 1)) ∧ Below w.heap.size w W5 from
              ⟨hoth5 _ _ (by omega) HR.out.1, hoth5 _ _ (by omega) HR.out.2.1, by rw [← TM.mix_set u.testBit r s j hlt2 hf]; exact hR5, hB5 _ _ (by omega) HR.out.2.2.2⟩)
            clear HR hR5 hoth5 hsize5 hB5 hf
            go_wp2
            go_roundw
            case rel => exact ⟨j + 1, by go_num, by omega, HF.out⟩
            case measure => simp [intOf]; omega
          | false =>
            have hbit := shr_bit u j hub false hf
            have HF := hid (show RB.Rec wr w3.heap.size (TM.mix u.testBit r s (j + 1)) by rw [TM.mix_not u.testBit r s j hf]; exact HR.out.2.2.1)
            clear hf
            go_wp2
            go_roundw
            case rel => exact ⟨j + 1, by go_num, by omega, HR.out.1, HR.out.2.1, HF.out, HR.out.2.2.2⟩
            case measure => simp [intOf]; omega
        · obtain rfl : j = 16 := by omega
          have hl1 := HR.out.1.load
          have hl3 := HR.out.2.2.1.load
          have hsm := hszm 16
          go_wp2_with fail
          refine (HV1.out _ (HH.out.2.1.below HR.out.2.2.2)).mono ?_
          rintro e w5 ⟨rfl, hb⟩
          replace HR := hid (And.intro (HR.out.1.below hb HR.out.1.lt) (And.intro (HR.out.2.1.below hb HR.out.2.1.lt) (And.intro (HR.out.2.2.1.below hb HR.out.2.2.1.lt) (stp (hid HR.out.2.2.2) hb).out)))
          clear hb hl1 hl3
          have hl3 := HR.out.2.2.1.load
          go_wp2_with fail
          refine (HV2.out _ (HH.out.2.1.below HR.out.2.2.2)).mono ?_
          rintro e w6 ⟨rfl, hb⟩
          replace HR := hid (And.intro (HR.out.1.below hb HR.out.1.lt) (And.intro (HR.out.2.1.below hb HR.out.2.1.lt) (stp (hid HR.out.2.2.2) hb).out))
          clear hb hl3
          obtain ⟨b, o, rfl, hly⟩ := HH.out.2.1.ly (by rw [HH.out.1]; omega)
          have HL := hid hly
          have hvv : (v != v) = false := by simp
          have huu : ((u : Int) != (u : Int)) = false := by simp
          clear hly
          go_wp2_with fail
          refine (HRu1.out b o _ (HL.out.below HR.out.2.2)).mono ?_
          rintro e w7 ⟨rfl, hb⟩
          replace HR := hid (And.intro (HR.out.1.below hb HR.out.1.lt) (And.intro (HR.out.2.1.below hb HR.out.2.1.lt) (stp (hid HR.out.2.2) hb).out))
          clear hb
          go_wp2
          go_roundw
          case rel => exact ⟨k + 1, by omega, by go_num, HR.out⟩
          case measure => simp [intOf]; omega
    · obtain rfl : k = n := by omega
      go_wp2
      go_ret
      exact ⟨rfl, HR.out.2.2⟩
theorem tuses_law (hAw : Aw11) (hUs : UsOk) (hVl : VlOk) (A : Option Addr) (cap : Nat) (l : List TM.N) (hcap : l.length ≤ cap) (ok : ∀ x ∈ l, TM.okN x) (r s : List Int) (hkr : R.okR r) (hks : R.okR s) (w : World) (hl : LiesN w A l) :
    Calls Try.prog 4 #[.slice A l.length cap, .agg (RB.enc r), .agg (RB.enc s)] w fun e w' => e = .returned (.bool true) ∧ Below w.heap.size w w' := by
  by_cases h : 40 < l.length
  · exact tuses_big hAw A l.length cap r s h w
  · cases hr : TM.rowB l with
    | false => exact tuses_bad hAw A l.length cap r s l rfl (by omega) ok hr w hl
    | true => exact tuses_good hAw hUs hVl A l.length cap r s hkr hks l rfl (by omega) hcap ok hr w hl
end Go.Proofs.Ytmjeoknndnbglaa.TB
