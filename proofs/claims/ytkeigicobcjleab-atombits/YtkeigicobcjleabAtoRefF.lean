/-
  The reference's Check and Holds of layer 13, as walks over the Go text.
-/
import Derived.Test.YtkeigicobcjleabAtoRefA
namespace Go.Proofs.Ytkeigicobcjleab.TM
/-- an atom's error, if any -/
def chkA (l : List N) (o a b : Int) : Int := if rowB l = true then (if isQ o = true then (if a < 0 ∨ (l.length : Int) ≤ a ∨ b < 0 ∨ (l.length : Int) ≤ b then 2 else 0) else 1) else 3
end Go.Proofs.Ytkeigicobcjleab.TM
namespace Go.Proofs.Ytkeigicobcjleab.TB
open Go.ChangeShapes Go.WideShapes Go.ChangeAt Go.RowKit
open Go.Sort hiding Below
set_option linter.unusedVariables false
set_option maxRecDepth 100000
set_option maxHeartbeats 6400000 in
theorem rcheckA (A : Option Addr) (n cap : Nat) (l : List TM.N) (hln : l.length = n) (hn : n ≤ 9223372036854775807) (ok : ∀ x ∈ l, TM.okN x) (o a b : Int) (nt : Bool) (w : World) (hl : LiesN w A l) :
    Calls Try.prog 13 #[.slice A n cap, .agg #[.int .i64 o, .int .i64 a, .int .i64 b, .bool nt]] w fun e w' => e = .returned (.int .i64 (TM.chkA l o a b)) ∧ Below w.heap.size w w' := by
  obtain ⟨w1, hw1⟩ : ∃ w1, w.alloc (.cells #[.int .i64 o, .int .i64 a, .int .i64 b, .bool nt] 31) = w1 := ⟨_, rfl⟩
  have hl0 := al w (.cells #[.int .i64 o, .int .i64 a, .int .i64 b, .bool nt] 31)
  have hA1 := AAt.new w o a b nt
  rw [hw1] at hl0 hA1
  obtain ⟨q, hq⟩ : ∃ q, TM.rowB l = q := ⟨_, rfl⟩
  have HR := hid (rrow_any A n cap l hln hn ok w1 (hl.below hl0) q hq)
  have HB0 := hid hl0
  have HA := hid hA1
  unfold TM.chkA
  rw [hq, hln]
  clear hl hl0 hA1 hq ok hln hn
  cases q with
  | false =>
    rw [if_neg (by decide)]
    go_enter Try.func13, Try.ntmps13
    go_wp2_with fail
    refine HR.out.mono ?_
    rintro e w2 ⟨rfl, hb⟩
    have HB := stp HB0 hb
    clear hb HR
    go_wp2
    go_ret
    exact ⟨rfl, HB.out⟩
  | true =>
    rw [if_pos rfl]
    cases ho : TM.isQ o with
    | false =>
      rw [if_neg (by decide)]
      have hno : ∀ c : Int, TM.isQ c = true → (o != c) = true := fun c hc => by
        rw [bne_iff_ne]; intro e; rw [e, hc] at ho; cases ho
      have c1 := hno 16 rfl
      have c2 := hno 32 rfl
      have c3 := hno 48 rfl
      have c4 := hno 64 rfl
      clear hno ho
      go_enter Try.func13, Try.ntmps13
      go_wp2_with fail
      refine HR.out.mono ?_
      rintro e w2 ⟨rfl, hb⟩
      have HB := stp HB0 hb
      obtain ⟨a0, a1, a2, a3, a4⟩ := (HA.out.below hb).cells
      clear hb HR
      go_wp2
      go_ret
      exact ⟨rfl, HB.out⟩
    | true =>
      rw [if_pos rfl]
      have hc : (decide (a < 0) = true ∧ (a < 0 ∨ (n : Int) ≤ a ∨ b < 0 ∨ (n : Int) ≤ b)) ∨ (decide (a < 0) = false ∧ decide ((n : Int) ≤ a) = true ∧ (a < 0 ∨ (n : Int) ≤ a ∨ b < 0 ∨ (n : Int) ≤ b)) ∨ (decide (a < 0) = false ∧ decide ((n : Int) ≤ a) = false ∧ decide (b < 0) = true ∧ (a < 0 ∨ (n : Int) ≤ a ∨ b < 0 ∨ (n : Int) ≤ b)) ∨
          (decide (a < 0) = false ∧ decide ((n : Int) ≤ a) = false ∧ decide (b < 0) = false ∧ decide ((n : Int) ≤ b) = true ∧ (a < 0 ∨ (n : Int) ≤ a ∨ b < 0 ∨ (n : Int) ≤ b)) ∨ (decide (a < 0) = false ∧ decide ((n : Int) ≤ a) = false ∧ decide (b < 0) = false ∧ decide ((n : Int) ≤ b) = false ∧ ¬ (a < 0 ∨ (n : Int) ≤ a ∨ b < 0 ∨ (n : Int) ≤ b)) := by
        simp only [decide_eq_true_eq, decide_eq_false_iff_not]; omega
      rcases TM.isQ_iff.1 ho with rfl | rfl | rfl | rfl
      all_goals
        clear ho
        rcases hc with ⟨d1, hd⟩ | ⟨d1, d2, hd⟩ | ⟨d1, d2, d3, hd⟩ | ⟨d1, d2, d3, d4, hd⟩ | ⟨d1, d2, d3, d4, hd⟩
      all_goals
        first | rw [if_pos hd] | rw [if_neg hd]
        clear hd
        go_enter Try.func13, Try.ntmps13
        go_wp2_with fail
        refine HR.out.mono ?_
        rintro e w2 ⟨rfl, hb⟩
        have HB := stp HB0 hb
        obtain ⟨a0, a1, a2, a3, a4⟩ := (HA.out.below hb).cells
        clear hb HR
        go_wp2
        go_ret
        exact ⟨rfl, HB.out⟩
set_option maxHeartbeats 6400000 in
/-- is an atom of two places so, of a record? -/
theorem rholdsA (A : Option Addr) (n cap : Nat) (l : List TM.N) (hln : l.length = n) (hr : TM.Row l) (ok : ∀ x ∈ l, TM.okN x) (r : List Int) (hk : R.okR r) (o : Int) (a b : Nat) (ha : a < n) (hb : b < n) (nt : Bool) (w : World) (hl : LiesN w A l) :
    Calls Try.prog 7 #[.slice A n cap, .agg #[.int .i64 o, .int .i64 ((a : Nat) : Int), .int .i64 ((b : Nat) : Int), .bool nt], .agg (RB.enc r)] w fun e w' => e = .returned (.bool (WM.ask o (TM.val l r a) (TM.val l r b) != nt)) ∧ Below w.heap.size w w' := by
  have hva : ∀ i, i < n → TM.W32 (TM.val l r i) := fun i hi => by
    rw [TM.val_tr hr r i (by omega)]
    exact TM.valT_w32 (fun i => hk.2 i) _ (TM.tr_okT hr ok i (by omega))
  have va := hva a ha
  have vb := hva b hb
  have HS := hid (fun W => WB.rask_any o (TM.val l r a) (TM.val l r b) va.1 va.2 vb.1 vb.2 W)
  have HV := hid (fun W h => rvals_any A n cap l hln hr ok r hk W h)
  have hXX := RB.lcf_eq
  have hsz16 := RB.enc_size hk.1
  have i1 : (a : Int) < (n : Int) := by omega
  have i2 : (b : Int) < (n : Int) := by omega
  obtain ⟨w1, hw1⟩ : ∃ w1, w.alloc (.cells #[.int .i64 o, .int .i64 ((a : Nat) : Int), .int .i64 ((b : Nat) : Int), .bool nt] 31) = w1 := ⟨_, rfl⟩
  have hl0 := al w (.cells #[.int .i64 o, .int .i64 ((a : Nat) : Int), .int .i64 ((b : Nat) : Int), .bool nt] 31)
  have hA1 := AAt.new w o ((a : Nat) : Int) ((b : Nat) : Int) nt
  rw [hw1] at hl0 hA1
  have HRc := hid (RB.Rec.new w1 r hk.1)
  obtain ⟨w2, hw2⟩ : ∃ w2, w1.alloc (.cells (RB.enc r) 24) = w2 := ⟨_, rfl⟩
  have hl1 := al w1 (.cells (RB.enc r) 24)
  rw [hw2] at HRc hl1
  have hA2 := hA1.below hl1
  have HB0 := hid (hl0.trans (hl1.mono hl0.size))
  have HA := hid hA2
  have HL := hid (hl.below HB0.out)
  have hld := HRc.out.load
  clear hl hl0 hA1 hl1 hA2 ok hr hk hva va vb
  go_enter Try.func7, Try.ntmps7
  go_wp2_with fail
  try rw [hw2]
  clear hw2
  refine (HV.out _ HL.out).mono ?_
  rintro e w3 ⟨g, rfl, hrow, hb3, hg⟩
  have HB := stp HB0 hb3
  obtain ⟨a0, a1, a2, a3, a4⟩ := (HA.out.below hb3).cells
  have v0 := hrow.cell a ha
  have v1 := hrow.cell b hb
  have hgl := hrow.lt
  have hlt := (HA.out.below hb3).lt
  clear hb3 hrow hg HV HL hld
  go_wp2_with fail
  refine wp_region_held_drew (S := fun w' => (∀ b o, b < w3.heap.size → w'.cell? ⟨b, o, none⟩ = w3.cell? ⟨b, o, none⟩) ∧ Below w3.heap.size w3 w') (by kernel_rfl) ?_ (fun hHeld => ?_)
  · ((try dsimp only); (go_split_ands; refine bkeepS ?_; first | exact (Below.refl _ _).drew | assumption | exact Below.trans (by assumption) (Below.mono (by assumption) (Below.size (by assumption)))))
  change wpAnyH _ _ _ _ _ 17 #[false, false, false, false, false, false, false, false, false, false, false, false, false, false, false, false, false] _ _
  refine wpAnyH_take (i := 0) (v := ?_) (by simp only [List.getElem?_toArray, List.getElem?_cons_zero]; rfl) (by kernel_rfl) (by kernel_rfl) (by kernel_rfl) (by exact fun _ _ _ h => h) (Or.inl ⟨by rfl, ?_⟩) (by assumption) ?_
  rotate_left
  · (intro w hSw; (try dsimp only at hSw); go_simp; try with_reducible rfl)
  try simp only [Act.put, List.setIfInBounds_toArray, List.set_cons_zero, List.set_cons_succ]
  refine wpAnyH_take (i := 1) (v := ?_) (by simp only [List.getElem?_toArray, List.getElem?_cons_succ, List.getElem?_cons_zero]; rfl) (by kernel_rfl) (by kernel_rfl) (by kernel_rfl) (by exact fun _ _ _ h => h) (Or.inl ⟨by rfl, ?_⟩) (by assumption) ?_
  rotate_left
  · (intro w hSw; (try dsimp only at hSw); go_simp; try with_reducible rfl)
  try simp only [Act.put, List.setIfInBounds_toArray, List.set_cons_zero, List.set_cons_succ]
  refine wpAnyH_take (i := 2) (v := ?_) (by simp only [List.getElem?_toArray, List.getElem?_cons_succ, List.getElem?_cons_zero]; rfl) (by kernel_rfl) (by kernel_rfl) (by kernel_rfl) (by exact fun _ _ _ h => h) (Or.inl ⟨by rfl, ?_⟩) (by assumption) ?_
  rotate_left
  · (intro w hSw; (try dsimp only at hSw); go_simp; try with_reducible rfl)
  try simp only [Act.put, List.setIfInBounds_toArray, List.set_cons_zero, List.set_cons_succ]
  refine wpAnyH_take (i := 3) (v := ?_) (by simp only [List.getElem?_toArray, List.getElem?_cons_succ, List.getElem?_cons_zero]; rfl) (by kernel_rfl) (by kernel_rfl) (by kernel_rfl) (by exact fun _ _ _ h => h) (Or.inl ⟨by rfl, ?_⟩) (by assumption) ?_
  rotate_left
  · (intro w hSw; (try dsimp only at hSw); go_simp; try with_reducible rfl)
  try simp only [Act.put, List.setIfInBounds_toArray, List.set_cons_zero, List.set_cons_succ]
  refine wpAnyH_take (i := 4) (v := ?_) (by simp only [List.getElem?_toArray, List.getElem?_cons_succ, List.getElem?_cons_zero]; rfl) (by kernel_rfl) (by kernel_rfl) (by kernel_rfl) (by exact fun _ _ _ h => h) (Or.inl ⟨by rfl, ?_⟩) (by assumption) ?_
  rotate_left
  · (intro w hSw; (try dsimp only at hSw); go_simp; try with_reducible rfl)
  try simp only [Act.put, List.setIfInBounds_toArray, List.set_cons_zero, List.set_cons_succ]
  refine wpAnyH_take (i := 5) (v := ?_) (by simp only [List.getElem?_toArray, List.getElem?_cons_succ, List.getElem?_cons_zero]; rfl) (by kernel_rfl) (by kernel_rfl) (by kernel_rfl) (by exact fun _ _ _ h => h) (Or.inl ⟨by rfl, ?_⟩) (by assumption) ?_
  rotate_left
  · (intro w hSw; (try dsimp only at hSw); go_simp; try with_reducible rfl)
  try simp only [Act.put, List.setIfInBounds_toArray, List.set_cons_zero, List.set_cons_succ]
  refine wpAnyH_take (i := 6) (v := ?_) (by simp only [List.getElem?_toArray, List.getElem?_cons_succ, List.getElem?_cons_zero]; rfl) (by kernel_rfl) (by kernel_rfl) (by kernel_rfl) (by exact fun _ _ _ h => h) (Or.inl ⟨by rfl, ?_⟩) (by assumption) ?_
  rotate_left
  · (intro w hSw; (try dsimp only at hSw); go_simp; try with_reducible rfl)
  try simp only [Act.put, List.setIfInBounds_toArray, List.set_cons_zero, List.set_cons_succ]
  refine wpAnyH_take (i := 7) (v := ?_) (by simp only [List.getElem?_toArray, List.getElem?_cons_succ, List.getElem?_cons_zero]; rfl) (by kernel_rfl) (by kernel_rfl) (by kernel_rfl) (by exact fun _ _ _ h => h) (Or.inl ⟨by rfl, ?_⟩) (by assumption) ?_
  rotate_left
  · (intro w hSw; (try dsimp only at hSw); go_simp; try with_reducible rfl)
  try simp only [Act.put, List.setIfInBounds_toArray, List.set_cons_zero, List.set_cons_succ]
  refine wpAnyH_take (i := 8) (v := ?_) (by simp only [List.getElem?_toArray, List.getElem?_cons_succ, List.getElem?_cons_zero]; rfl) (by kernel_rfl) (by kernel_rfl) (by kernel_rfl) (by exact fun _ _ _ h => h) (Or.inl ⟨by rfl, ?_⟩) (by assumption) ?_
  rotate_left
  · (intro w hSw; (try dsimp only at hSw); go_simp; try with_reducible rfl)
  try simp only [Act.put, List.setIfInBounds_toArray, List.set_cons_zero, List.set_cons_succ]
  refine wpAnyH_take (i := 9) (v := ?_) (by simp only [List.getElem?_toArray, List.getElem?_cons_succ, List.getElem?_cons_zero]; rfl) (by kernel_rfl) (by kernel_rfl) (by kernel_rfl) (by exact fun _ _ _ h => h) (Or.inl ⟨by rfl, ?_⟩) (by assumption) ?_
  rotate_left
  · (intro w hSw; (try dsimp only at hSw); go_simp; try with_reducible rfl)
  try simp only [Act.put, List.setIfInBounds_toArray, List.set_cons_zero, List.set_cons_succ]
  refine wpAnyH_take (i := 10) (v := ?_) (by simp only [List.getElem?_toArray, List.getElem?_cons_succ, List.getElem?_cons_zero]; rfl) (by kernel_rfl) (by kernel_rfl) (by kernel_rfl) (by exact fun _ _ _ h => h) (Or.inl ⟨by rfl, ?_⟩) (by assumption) ?_
  rotate_left
  · (intro w hSw; (try dsimp only at hSw); go_simp; try with_reducible rfl)
  try simp only [Act.put, List.setIfInBounds_toArray, List.set_cons_zero, List.set_cons_succ]
  refine wpAnyH_take (i := 11) (v := ?_) (by simp only [List.getElem?_toArray, List.getElem?_cons_succ, List.getElem?_cons_zero]; rfl) (by kernel_rfl) (by kernel_rfl) (by kernel_rfl) (by exact fun _ _ _ h => h) (Or.inl ⟨by rfl, ?_⟩) (by assumption) ?_
  rotate_left
  · (intro w hSw; (try dsimp only at hSw); go_simp; try with_reducible rfl)
  try simp only [Act.put, List.setIfInBounds_toArray, List.set_cons_zero, List.set_cons_succ]
  refine wpAnyH_take (i := 13) (v := ?_) (by simp only [List.getElem?_toArray, List.getElem?_cons_succ, List.getElem?_cons_zero]; rfl) (by kernel_rfl) (by kernel_rfl) (by kernel_rfl) (by exact fun _ _ _ h => h) (Or.inl ⟨by rfl, ?_⟩) (by assumption) ?_
  rotate_left
  · (intro w hSw; (try dsimp only at hSw); go_simp; try with_reducible rfl)
  try simp only [Act.put, List.setIfInBounds_toArray, List.set_cons_zero, List.set_cons_succ]
  refine wpAnyH_take (i := 14) (v := ?_) (by simp only [List.getElem?_toArray, List.getElem?_cons_succ, List.getElem?_cons_zero]; rfl) (by kernel_rfl) (by kernel_rfl) (by kernel_rfl) (by exact fun _ _ _ h => h) (Or.inl ⟨by rfl, ?_⟩) (by assumption) ?_
  rotate_left
  · (intro w hSw; (try dsimp only at hSw); go_simp; try with_reducible rfl)
  try simp only [Act.put, List.setIfInBounds_toArray, List.set_cons_zero, List.set_cons_succ]
  refine wpAnyH_ready (rs := [12]) (by kernel_rfl) (by simp) ?_
  refine AllReadyH.cons rfl (fun K hK => ?_) AllReadyH.nil
  go_simp
  go_wp2_with (go_at_call 23; refine (HS.out _).mono ?_; rintro e w' ⟨rfl, hB⟩)
  try dsimp only
  refine hK.out _ _ ?_ (fun hHeld => ?_)
  · ((try dsimp only); first | assumption | (go_split_ands; refine bkeepS ?_; first | exact (Below.refl _ _).drew | assumption | exact Below.trans (by assumption) (Below.mono (by assumption) (Below.size (by assumption)))))
  clear hK K
  refine wpAnyH_take (i := 15) (v := ?_) (by simp only [List.getElem?_toArray, List.getElem?_cons_succ, List.getElem?_cons_zero]; rfl) (by kernel_rfl) (by kernel_rfl) (by kernel_rfl) (by exact fun _ _ _ h => h) (Or.inl ⟨by rfl, ?_⟩) (by assumption) ?_
  rotate_left
  · (intro w hSw; (try dsimp only at hSw); go_simp; try with_reducible rfl)
  try simp only [Act.put, List.setIfInBounds_toArray, List.set_cons_zero, List.set_cons_succ]
  refine wpAnyH_take (i := 16) (v := ?_) (by simp only [List.getElem?_toArray, List.getElem?_cons_succ, List.getElem?_cons_zero]; rfl) (by kernel_rfl) (by kernel_rfl) (by kernel_rfl) (by exact fun _ _ _ h => h) (Or.inl ⟨by rfl, ?_⟩) (by assumption) ?_
  rotate_left
  · (intro w hSw; (try dsimp only at hSw); go_simp; try with_reducible rfl)
  try simp only [Act.put, List.setIfInBounds_toArray, List.set_cons_zero, List.set_cons_succ]
  refine wpAnyH_done (by kernel_rfl) ?_ _
  go_split_ands
  have hfin : Below w.heap.size w _ := (stp HB (by assumption)).out
  go_wp2
  go_ret
  exact ⟨rfl, hfin⟩
end Go.Proofs.Ytkeigicobcjleab.TB
