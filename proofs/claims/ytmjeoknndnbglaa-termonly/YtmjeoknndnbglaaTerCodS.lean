/-
  The program's Alike of layer 11, as a walk over the Go text.
-/
import Derived.Test.YtmjeoknndnbglaaTerCodR
import Derived.Test.YtmjeoknndnbglaaTerCodJ
import Derived.Test.YtmjeoknndnbglaaTerTree
namespace Go.Proofs.Ytmjeoknndnbglaa.TM
set_option linter.unusedVariables false
theorem plc_tr {l : List N} (hl : Row l) (ok : ∀ x ∈ l, okN x) {i j : Nat} (hi : i < l.length) (hj : j < l.length) : plc [] l i = plc [] l j ↔ tr l i = tr l j := by
  have hn : ([] : List N).length + l.length ≤ 65536 := by have := hl.1; simp; omega
  have h := fun i hi => into_tr hl ok row_nil once_nil (by simp) hn (Nat.le_refl l.length) i hi
  obtain ⟨_, h2, h3, h4, h5, _⟩ := pl_inv hl ok row_nil once_nil (by simp) hn l.length (Nat.le_refl _)
  constructor
  · intro e; rw [← h i hi, ← h j hj, e]
  · intro e; exact tr_inj h2 h4 h3 _ _ (h5 i hi).1 (h5 j hj).1 (by rw [h i hi, h j hj, e])
theorem alike_only {l : List N} (hl : Row l) (ok : ∀ x ∈ l, okN x) (R : List Int) {i j : Nat} (hi : i < l.length) (hj : j < l.length) (h1 : inR l R i = true) (h2 : inR l R j = true) :
    plc [] (onlyL l R) (cnP (inR l R) i) = plc [] (onlyL l R) (cnP (inR l R) j) ↔ plc [] l i = plc [] l j := by
  rw [plc_tr hl ok hi hj, plc_tr (only_row hl R) (only_ok hl ok R) (only_lt l R hi h1) (only_lt l R hj h2), only_tr hl R i hi h1, only_tr hl R j hj h2]
end Go.Proofs.Ytmjeoknndnbglaa.TM
namespace Go.Proofs.Ytmjeoknndnbglaa.TB
open Go.ChangeShapes Go.WideShapes Go.ChangeAt Go.RowKit
open Go.Sort hiding Below
set_option linter.unusedVariables false
set_option maxRecDepth 100000

theorem lies_two (w : World) (i j : Int) : LiesI (w.alloc (.cells #[.int .i64 i, .int .i64 j] 3)) (some ⟨w.heap.size, 0, none⟩) [i, j] := by
  refine .inr ⟨_, 0, rfl, by simp, fun q hq => ?_⟩
  have : q = 0 ∨ q = 1 := by simp at hq; omega
  rcases this with rfl | rfl
  · exact cell_lit w [.int .i64 i, .int .i64 j] 3 0
  · exact cell_lit w [.int .i64 i, .int .i64 j] 3 1
set_option maxHeartbeats 6400000 in
theorem cal : AlOk := by
  intro A n cap L i j hln hL ok hi hj w hl
  have hn : n ≤ 65536 := by rw [← hln]; exact hL.1
  have hin : inB L [(i : Int), (j : Int)] := fun x hx => by
    simp only [List.mem_cons, List.not_mem_nil, or_false] at hx
    rcases hx with rfl | rfl <;> omega
  have h1 : TM.inR L [(i : Int), (j : Int)] i = true := TM.inR_root (x := (i : Int)) (by simp)
  have h2 : TM.inR L [(i : Int), (j : Int)] j = true := TM.inR_root (x := (j : Int)) (by simp)
  have hq := TM.alike_only hL ok [(i : Int), (j : Int)] (by omega : i < L.length) (by omega : j < L.length) h1 h2
  have hl1 := TM.only_lt L [(i : Int), (j : Int)] (by omega : i < L.length) h1
  have hl2 := TM.only_lt L [(i : Int), (j : Int)] (by omega : j < L.length) h2
  have HA := hid (fun W B (h : LiesN W A L) (h2 : LiesI W B [(i : Int), (j : Int)]) => casked A n cap L hln ok hL B 2 2 [(i : Int), (j : Int)] rfl (by omega) 0 (.inl ⟨hin, rfl⟩) W h h2)
  have HO := hid (fun W B (h : LiesN W A L) (h2 : LiesI W B [(i : Int), (j : Int)]) => conly A n cap L hln hL B 2 2 [(i : Int), (j : Int)] rfl (by omega) hin W h h2)
  have hrow := TM.only_row hL [(i : Int), (j : Int)]
  have hok := TM.only_ok hL ok [(i : Int), (j : Int)]
  have hlen := hrow.1
  obtain ⟨M, hM⟩ : ∃ M, TM.onlyL L [(i : Int), (j : Int)] = M := ⟨_, rfl⟩
  rw [hM] at HO hrow hok hlen hq hl1 hl2
  obtain ⟨P, hP⟩ : ∃ P, TM.inR L [(i : Int), (j : Int)] = P := ⟨_, rfl⟩
  rw [hP] at HO hq hl1 hl2
  obtain ⟨ci, hci⟩ : ∃ ci, TM.cnP P i = ci := ⟨_, rfl⟩
  obtain ⟨cj, hcj⟩ : ∃ cj, TM.cnP P j = cj := ⟨_, rfl⟩
  rw [hci] at hq hl1
  rw [hcj] at hq hl2
  have HC := hid (And.intro hci hcj)
  obtain ⟨m, hm⟩ : ∃ m, M.length = m := ⟨_, rfl⟩
  rw [hm] at hlen hl1 hl2
  have HU := hid (fun a c C v F0 W (h1 : LiesN W a M) h2 (h3 : Pl W F0 v []) (h4 : One W C v 58) h5 => cupI a m c M hm hrow hok C v F0 W h1 h2 h3 h4 h5)
  have HL := hid hl
  have HM := hid hm
  obtain ⟨pi, hpi⟩ : ∃ pi, TM.plc [] M ci = pi := ⟨_, rfl⟩
  obtain ⟨pj, hpj⟩ : ∃ pj, TM.plc [] M cj = pj := ⟨_, rfl⟩
  rw [hpi, hpj] at hq
  have hqq : (((pi : Nat) : Int) == ((pj : Nat) : Int)) = decide (TM.plc [] L i = TM.plc [] L j) := by
    rw [Bool.eq_iff_iff, beq_iff_eq, decide_eq_true_eq]; omega
  obtain ⟨qq, hqe⟩ : ∃ qq, decide (TM.plc [] L i = TM.plc [] L j) = qq := ⟨_, rfl⟩
  rw [hqe] at hqq ⊢
  have HP := hid (And.intro hpi hpj)
  have HQ := hid hqq
  have HB := hid (al w (.cells #[.int .i64 i, .int .i64 j] 3))
  have HI := hid (lies_two w i j)
  clear hln hL ok hi hj hl hin h1 h2 hrow hok hM hP hci hcj hm hpi hpj hq hqe hqq
  go_enter Try.func30, Try.ntmps30
  go_wp2_with fail
  refine (HA.out _ _ (HL.out.below HB.out) HI.out).mono ?_
  rintro e w1 ⟨rfl, hb⟩
  have HB1 := stp HB hb
  have HB2 := stp HB1 (al w1 (.cells #[.int .i64 i, .int .i64 j] 3))
  have HI1 := hid (lies_two w1 i j)
  clear hb HB HI HA
  go_wp2_with fail
  refine (HO.out _ _ (HL.out.below HB2.out) HI1.out).mono ?_
  rintro e w2 ⟨a, c, b, d, rfl, hM2, hR2, hb⟩
  have HB3 := stp HB2 hb
  have HM2 := hid hM2
  obtain ⟨g2, o2, rfl, hg2, hcs⟩ : ∃ g o, b = some ⟨g, o, none⟩ ∧ g < w2.heap.size ∧ ∀ q, q < 2 → w2.cell? ⟨g, o + q, none⟩ = some (.int .i64 ((TM.cnP P ([(i : Int), (j : Int)].getD q 0).toNat : Nat) : Int)) := by
    rcases hR2 with h | h
    · omega
    · exact h
  have k0 := hcs 0 (by omega)
  have k1 := hcs 1 (by omega)
  simp only [List.getD_cons_zero, List.getD_cons_succ, Int.toNat_natCast, HC.out.1, HC.out.2] at k0 k1
  clear hb hM2 hR2 hcs HB1 HB2 HI1 HO
  rw [HM.out]
  go_wp2_with fail
  refine (pl_new _).mono ?_
  rintro e w3 ⟨v, F0, rfl, hPl, hb, hF⟩
  obtain ⟨pb, rfl⟩ : ∃ b, v = .pointer (some ⟨b, 0, none⟩) := by
    obtain ⟨b, _, _, _, h, _⟩ := hPl
    exact ⟨b, h⟩
  have HB4 := stp HB3 hb
  have HB5 := stp HB4 (al w3 (.cells #[.pointer (some ⟨pb, 0, none⟩)] 58))
  have hlt3 : ∀ b, F0 b → b < w3.heap.size := fun b hb => cpool.lt _ _ _ _ hPl b hb
  have hs23 := hb.size
  have HPl := hid (cpool.below hPl (al w3 (.cells #[.pointer (some ⟨pb, 0, none⟩)] 58)))
  have HOn := hid (One.new w3 (.pointer (some ⟨pb, 0, none⟩)) 58)
  have HM3 := hid ((HM2.out.below hb).below (al w3 (.cells #[.pointer (some ⟨pb, 0, none⟩)] 58)))
  have k2 := (hb.cell (p := ⟨g2, o2 + 0, none⟩) hg2).trans k0
  have k3 := (hb.cell (p := ⟨g2, o2 + 1, none⟩) hg2).trans k1
  have HK := hid (fun W (h : Fr (w3.alloc (.cells #[.pointer (some ⟨pb, 0, none⟩)] 58)) W F0) => (show W.heap[g2]? = w3.heap[g2]? from (h.block g2 (by simp; omega) (fun hf => by have := hF g2 hf; omega)).trans (Below.heap_alloc _ _ _ (by omega))))
  have HA3 := hid (show ∀ x, a = some x → ¬ F0 x.block from fun x hx hf => by
    obtain ⟨b, o, e, h1, _⟩ := HM2.out.ly (by rw [HM.out]; omega)
    rw [hx] at e; injection e with e
    rw [e] at hf
    have := hF b hf
    omega)
  have HC3 := hid (show ¬ F0 w3.heap.size from fun hf => by have := hlt3 _ hf; omega)
  have HFb := hid (show ∀ b, F0 b → w.heap.size ≤ b from fun b hb2 => by have := hF b hb2; have := HB3.out.size; omega)
  clear hPl hb hF hlt3 hs23 HB3 HM2 k0 k1 HL
  go_wp2_with fail
  refine (HU.out _ _ _ _ F0 _ HM3.out HA3.out HPl.out HOn.out HC3.out).mono ?_
  rintro e w4 ⟨g, rfl, hR, hFr⟩
  have eg := HK.out w4 hFr
  have HB6 := hid (hFr.below HB5.out HFb.out HB5.out.size)
  have m0 := hR.cell ci hl1
  have m1 := hR.cell cj hl2
  simp only [HP.out.1, HP.out.2] at m0 m1
  have k4 : w4.cell? ⟨g2, o2, none⟩ = some (.int .i64 (ci : Int)) := (World.cell?_of_block eg).trans k2
  have k5 : w4.cell? ⟨g2, o2 + 1, none⟩ = some (.int .i64 (cj : Int)) := (World.cell?_of_block eg).trans k3
  have i1 : (ci : Int) < (m : Int) := by omega
  have i2 : (cj : Int) < (m : Int) := by omega
  have i3 : m ≤ 65536 := hlen
  have hqq := HQ.out
  clear hR hFr eg k2 k3 HK HPl HOn HM3 HA3 HC3 HFb HB4 HB5 HU
  go_wp2
  go_quiet (fail)
  go_wp2
  go_ret2
  exact ⟨rfl, bdrew HB6.out nq⟩
end Go.Proofs.Ytmjeoknndnbglaa.TB
