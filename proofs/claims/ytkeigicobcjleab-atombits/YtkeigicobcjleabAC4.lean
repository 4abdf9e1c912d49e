/-
  The program's Check and Holds of layer 13, as walks over the Go text.
-/
import Derived.Test.YtkeigicobcjleabAC0
import Derived.Test.YtkeigicobcjleabAtoLawP
import Derived.Test.YtkeigicobcjleabAtoRec
import Derived.Test.YtkeigicobcjleabTerCodF
namespace Go.Proofs.Ytkeigicobcjleab.TB
open Go.ChangeShapes Go.WideShapes Go.ChangeAt Go.RowKit
open Go.Sort hiding Below
set_option linter.unusedVariables false
set_option maxRecDepth 100000
theorem rowB_false {l : List TM.N} {p e : Int} (h : TM.chk l = (p, e)) : TM.rowB l = (e == 0) := by unfold TM.rowB; rw [h]
set_option maxHeartbeats 3200000 in
theorem ckcok : KcOk := by
  intro A n cap l hln hcap hn ok o a b nt wo wa wb W hl
  obtain ⟨p, e, hc⟩ : ∃ p e, TM.chk l = (p, e) := ⟨_, _, rfl⟩
  have HB0 := hid (al W (.cells #[.int .i64 o, .int .i64 a, .int .i64 b, .bool nt] 31))
  have HA0 := hid (AAt.new W o a b nt)
  have HC := hid (ccheck A n cap l hln hn ok _ (hl.below HB0.out) p e hc)
  have HK := hid (fun w => casks o w)
  have HP1 := hid (fun w => cplace A n cap a w)
  have HP2 := hid (fun w => cplace A n cap b w)
  have hrb := rowB_false hc
  unfold TM.chkA
  rw [hln]
  clear hc hl ok hcap wo wa wb
  by_cases c0 : e = 0
  · subst c0
    rw [hrb, if_pos (show ((0 : Int) == 0) = true from rfl)]
    cases c1 : TM.isQ o with
    | false =>
      rw [if_neg (by decide)]
      rw [c1] at HK
      clear c1
      go_enter Try.func20, Try.ntmps20
      go_wp2_with (first
        | (go_at_call 34; refine HC.out.mono ?_; clear HC; rintro e w1 ⟨rfl, hb⟩; have HB := stp HB0 hb; have HA := hid (HA0.out.below hb); clear hb HA0 HB0; obtain ⟨s0, s1, s2, s3, sf⟩ := HA.out.cells)
        | (go_at_call 25; refine (HK.out _).mono ?_; clear HK; rintro e w0 ⟨rfl, rfl⟩))
      go_ret
      exact ⟨rfl, HB.out⟩
    | true =>
      rw [if_pos rfl]
      rw [c1] at HK
      clear c1
      obtain ⟨qa, hqa⟩ : ∃ q, (decide (0 ≤ a) && decide (a < (n : Int))) = q := ⟨_, rfl⟩
      obtain ⟨qb, hqb⟩ : ∃ q, (decide (0 ≤ b) && decide (b < (n : Int))) = q := ⟨_, rfl⟩
      rw [hqa] at HP1
      rw [hqb] at HP2
      have hz : (if a < 0 ∨ (n : Int) ≤ a ∨ b < 0 ∨ (n : Int) ≤ b then 2 else 0 : Int) = if qa = true then (if qb = true then 0 else 2) else 2 := by
        have ea : qa = true ↔ (0 ≤ a ∧ a < (n : Int)) := by rw [← hqa]; simp
        have eb : qb = true ↔ (0 ≤ b ∧ b < (n : Int)) := by rw [← hqb]; simp
        by_cases g1 : qa = true
        · by_cases g2 : qb = true
          · rw [if_pos g1, if_pos g2, if_neg (by have := ea.1 g1; have := eb.1 g2; omega)]
          · rw [if_pos g1, if_neg g2, if_pos (by have : ¬ (0 ≤ b ∧ b < (n : Int)) := fun h => g2 (eb.2 h); omega)]
        · rw [if_neg g1, if_pos (by have : ¬ (0 ≤ a ∧ a < (n : Int)) := fun h => g1 (ea.2 h); omega)]
      rw [hz]
      clear hqa hqb hz hrb
      cases qa <;> cases qb
      all_goals
        go_enter Try.func20, Try.ntmps20
        go_wp2_with (first
          | (go_at_call 34; refine HC.out.mono ?_; clear HC; rintro e w1 ⟨rfl, hb⟩; have HB := stp HB0 hb; have HA := hid (HA0.out.below hb); clear hb HA0 HB0; obtain ⟨s0, s1, s2, s3, sf⟩ := HA.out.cells)
          | (go_at_call 25; refine (HK.out _).mono ?_; clear HK; rintro e w0 ⟨rfl, rfl⟩)
          | (go_at_call 35; refine (HP1.out _).mono ?_; clear HP1; rintro e w0 ⟨rfl, rfl⟩)
          | (go_at_call 35; refine (HP2.out _).mono ?_; clear HP2; rintro e w0 ⟨rfl, rfl⟩))
        go_ret
        exact ⟨rfl, HB.out⟩
  · have c1 : (e != 0) = true := bne_iff_ne.2 c0
    rw [hrb, if_neg (by simpa using c0)]
    clear c0 hrb
    go_enter Try.func20, Try.ntmps20
    go_wp2_with (go_at_call 34; refine HC.out.mono ?_; clear HC; rintro e w1 ⟨rfl, hb⟩; have HB := stp HB0 hb; clear hb HA0 HB0)
    go_ret
    exact ⟨rfl, HB.out⟩
set_option maxHeartbeats 3200000 in
theorem ckhbad : KhBad := by
  intro A n cap l hln hcap hn ok r hr o a b nt wo wa wb q hq hq0 W hl
  have hX := RB.lcf_eq
  have hsz16 := RB.enc_size hr.1
  have HB0 := hid (al2 W (.cells #[.int .i64 o, .int .i64 a, .int .i64 b, .bool nt] 31) (.cells (RB.enc r) 24))
  have HA0 := hid ((AAt.new W o a b nt).below (al _ (.cells (RB.enc r) 24)))
  have HC := hid (ckcok A n cap l hln hcap hn ok o a b nt wo wa wb _ (hl.below HB0.out))
  rw [hq] at HC
  have c1 : (q != 0) = true := bne_iff_ne.2 hq0
  have hld := HA0.out.load
  clear hln hcap hn ok hr wo wa wb hq hq0 hl
  go_enter Try.func18, Try.ntmps18
  go_wp2_with (go_at_call 20; refine HC.out.mono ?_; clear HC; rintro e w1 ⟨rfl, hb⟩; have HB := stp HB0 hb; clear hb HA0 HB0)
  go_ret2
  exact ⟨rfl, HB.out⟩
set_option maxHeartbeats 6400000 in
theorem ckhok : KhOk := by
  intro A n cap l hln hcap hL ok r hr o a b nt ho ha hb W hl
  have hX := RB.lcf_eq
  have hsz16 := RB.enc_size hr.1
  have h65 := hL.1
  obtain ⟨h, hh⟩ : ∃ h : Nat, max a b + 1 = h := ⟨_, rfl⟩
  have hhn : h ≤ n := by omega
  have hah : a < h := by omega
  have hbh : b < h := by omega
  have HB0 := hid (al2 W (.cells #[.int .i64 o, .int .i64 a, .int .i64 b, .bool nt] 31) (.cells (RB.enc r) 24))
  have HA0 := hid ((AAt.new W o a b nt).below (al _ (.cells (RB.enc r) 24)))
  have HR0 := hid (RB.Rec.new (W.alloc (.cells #[.int .i64 o, .int .i64 a, .int .i64 b, .bool nt] 31)) r hr.1)
  have hz : TM.chkA l o a b = 0 := by
    unfold TM.chkA
    rw [if_pos (TM.row_iff.2 hL), if_pos ho, if_neg (by omega)]
  have hwo : (Lit.int .i64 o).wf = true := wfs (by have := TM.isQ_iff.1 ho; omega)
  have HC := hid (ckcok A n cap l hln hcap (by omega) ok o a b nt hwo (wfs (by omega)) (wfs (by omega)) _ (hl.below HB0.out))
  rw [hz] at HC
  have HV := hid (fun W1 (h1 : Below W.heap.size W W1) => cvs A h cap (l.take h) r (by rw [List.length_take]; omega) (TM.row_take hL (by omega)) (fun x hx => ok x (List.mem_of_mem_take hx)) hr W1 ((hl.below h1).take h))
  have hlen : h ≤ l.length := by omega
  have i1 : (h : Int) ≤ (cap : Int) := by omega
  have i3 : (0 : Int) ≤ (h : Int) := by omega
  obtain ⟨mx, hmx⟩ : ∃ mx : Nat, max a b = mx := ⟨_, rfl⟩
  have hme : (if a < b then (b : Int) else (a : Int)) = (mx : Int) := by split <;> omega
  have z1 : IntKind.i64.wrap ((mx : Int) + 1) = (h : Int) := by rw [show (mx : Int) + 1 = (h : Int) from by omega]; exact Go.IntWalk.i64_in _ (by omega)
  have hld0 := HA0.out.load
  have hsz1 : (W.alloc (.cells #[.int .i64 o, .int .i64 a, .int .i64 b, .bool nt] 31)).heap.size = W.heap.size + 1 := by simp
  rw [hsz1] at HR0
  have HB0b := HB0
  clear hln hcap hL ok ho ha hb hl h65 hz hwo hh hmx hsz1
  go_enter Try.func18, Try.ntmps18
  go_wp2_with (go_at_call 20; refine HC.out.mono ?_; clear HC; rintro e w1 ⟨rfl, hb⟩; have HB := stp HB0 hb; have HA := hid (HA0.out.below hb); have HR := hid (HR0.out.below hb (by simp)); clear hb HA0 HB0 HR0 HB0b hld0)
  obtain ⟨u0, u1, u2, u3, uf⟩ := HA.out.cells
  have hbw : W.heap.size < w1.heap.size := HA.out.lt
  have hldn := fun w (hw : Below w1.heap.size w1 w) => (HR.out.below hw HR.out.lt).load
  refine wp_region_held_drew (S := fun w' => (∀ b o, b < w1.heap.size → w'.cell? ⟨b, o, none⟩ = w1.cell? ⟨b, o, none⟩) ∧ Below w1.heap.size w1 w') (by kernel_rfl) ?_ (fun hHeld => ?_)
  · ((try dsimp only); (go_split_ands; refine bkeepS ?_; first | exact (Below.refl _ _).drew | assumption | exact Below.trans (by assumption) (Below.mono (by assumption) (Below.size (by assumption)))))
  change wpAnyH _ _ _ _ _ 15 #[false, false, false, false, false, false, false, false, false, false, false, false, false, false, false] _ _
  refine wpAnyH_take (i := 0) (v := ?_) (by simp only [List.getElem?_toArray, List.getElem?_cons_zero]; rfl) (by kernel_rfl) (by kernel_rfl) (by kernel_rfl) (by exact fun _ _ _ h => h) (Or.inl ⟨by rfl, ?_⟩) (by assumption) ?_
  rotate_left
  · (intro w hSw; (try dsimp only at hSw); go_simp; try with_reducible rfl)
  try simp only [Act.put, List.setIfInBounds_toArray, List.set_cons_zero, List.set_cons_succ]
  refine wpAnyH_take (i := 1) (v := ?_) (by simp only [List.getElem?_toArray, List.getElem?_cons_succ, List.getElem?_cons_zero]; rfl) (by kernel_rfl) (by kernel_rfl) (by kernel_rfl) (by exact fun _ _ _ h => h) (Or.inl ⟨by rfl, ?_⟩) (by assumption) ?_
  rotate_left
  · (intro w hSw; (try dsimp only at hSw); go_simp; try with_reducible rfl)
  try simp only [Act.put, List.setIfInBounds_toArray, List.set_cons_zero, List.set_cons_succ]
  refine wpAnyH_take (i := 2) (v := ?_) (by simp only [List.getElem?_toArray, List.getElem?_cons_succ, List.getElem?_cons_zero]; rfl) (by kernel_rfl) (by kernel_rfl) (by kernel_rfl) (by exact fun _ _ _ h => h) (Or.inl ⟨by rfl, ?_⟩) (by assumption) ?_
  rotate_left
  · (intro w hSw; (try dsimp only at hSw); have g1 := (hSw.1 W.heap.size 1 hbw).trans u1; go_simp; try with_reducible rfl)
  try simp only [Act.put, List.setIfInBounds_toArray, List.set_cons_zero, List.set_cons_succ]
  refine wpAnyH_take (i := 3) (v := ?_) (by simp only [List.getElem?_toArray, List.getElem?_cons_succ, List.getElem?_cons_zero]; rfl) (by kernel_rfl) (by kernel_rfl) (by kernel_rfl) (by exact fun _ _ _ h => h) (Or.inl ⟨by rfl, ?_⟩) (by assumption) ?_
  rotate_left
  · (intro w hSw; (try dsimp only at hSw); go_simp; try with_reducible rfl)
  try simp only [Act.put, List.setIfInBounds_toArray, List.set_cons_zero, List.set_cons_succ]
  refine wpAnyH_take (i := 4) (v := ?_) (by simp only [List.getElem?_toArray, List.getElem?_cons_succ, List.getElem?_cons_zero]; rfl) (by kernel_rfl) (by kernel_rfl) (by kernel_rfl) (by exact fun _ _ _ h => h) (Or.inl ⟨by rfl, ?_⟩) (by assumption) ?_
  rotate_left
  · (intro w hSw; (try dsimp only at hSw); have g1 := (hSw.1 W.heap.size 2 hbw).trans u2; go_simp; try with_reducible rfl)
  try simp only [Act.put, List.setIfInBounds_toArray, List.set_cons_zero, List.set_cons_succ]
  refine wpAnyH_take (i := 5) (v := ?_) (by simp only [List.getElem?_toArray, List.getElem?_cons_succ, List.getElem?_cons_zero]; rfl) (by kernel_rfl) (by kernel_rfl) (by kernel_rfl) (by exact fun _ _ _ h => h) (Or.inl ⟨by rfl, ?_⟩) (by assumption) ?_
  rotate_left
  · (intro w hSw; (try dsimp only at hSw); go_simp; try with_reducible rfl)
  try simp only [Act.put, List.setIfInBounds_toArray, List.set_cons_zero, List.set_cons_succ]
  refine wpAnyH_take (i := 6) (v := ?_) (by simp only [List.getElem?_toArray, List.getElem?_cons_succ, List.getElem?_cons_zero]; rfl) (by kernel_rfl) (by kernel_rfl) (by kernel_rfl) (by exact fun _ _ _ h => h) (Or.inl ⟨by rfl, ?_⟩) (by assumption) ?_
  rotate_left
  · (intro w hSw; (try dsimp only at hSw); go_simp; try with_reducible rfl)
  try simp only [Act.put, List.setIfInBounds_toArray, List.set_cons_zero, List.set_cons_succ]
  refine wpAnyH_take (i := 7) (v := ?_) (by simp only [List.getElem?_toArray, List.getElem?_cons_succ, List.getElem?_cons_zero]; rfl) (by kernel_rfl) (by kernel_rfl) (by kernel_rfl) (by exact fun _ _ _ h => h) (Or.inl ⟨by rfl, ?_⟩) (by assumption) ?_
  rotate_left
  · (intro w hSw; (try dsimp only at hSw); go_simp; try with_reducible rfl)
  try simp only [Act.put, List.setIfInBounds_toArray, List.set_cons_zero, List.set_cons_succ]
  refine wpAnyH_take (i := 8) (v := ?_) (by simp only [List.getElem?_toArray, List.getElem?_cons_succ, List.getElem?_cons_zero]; rfl) (by kernel_rfl) (by kernel_rfl) (by kernel_rfl) (by exact fun _ _ _ h => h) (Or.inl ⟨by rfl, ?_⟩) (by assumption) ?_
  rotate_left
  · (intro w hSw; (try dsimp only at hSw); have g1 := hldn w hSw.2; go_simp; try with_reducible rfl)
  try simp only [Act.put, List.setIfInBounds_toArray, List.set_cons_zero, List.set_cons_succ]
  refine wpAnyH_ready (rs := [9]) (by kernel_rfl) (by simp) ?_
  refine AllReadyH.cons rfl (fun K hK => ?_) AllReadyH.nil
  go_simp
  go_wp2_with (go_at_call 32; refine (HV.out _ (stp HB hHeld.2).out).mono ?_; rintro e2 w2 ⟨g, cc, rfl, hRow, hb2⟩)
  try dsimp only
  refine hK.out _ _ ?_ (fun hHeld => ?_)
  · ((try dsimp only); first | assumption | (go_split_ands; refine bkeepS ?_; first | exact (Below.refl _ _).drew | assumption | exact Below.trans (by assumption) (Below.mono (by assumption) (Below.size (by assumption)))))
  clear hK K
  refine wpAnyH_take (i := 10) (v := ?_) (by simp only [List.getElem?_toArray, List.getElem?_cons_succ, List.getElem?_cons_zero]; rfl) (by kernel_rfl) (by kernel_rfl) (by kernel_rfl) (by exact fun _ _ _ h => h) (Or.inl ⟨by rfl, ?_⟩) (by assumption) ?_
  rotate_left
  · (intro w hSw; (try dsimp only at hSw); go_simp; try with_reducible rfl)
  try simp only [Act.put, List.setIfInBounds_toArray, List.set_cons_zero, List.set_cons_succ]
  refine wpAnyH_take (i := 11) (v := ?_) (by simp only [List.getElem?_toArray, List.getElem?_cons_succ, List.getElem?_cons_zero]; rfl) (by kernel_rfl) (by kernel_rfl) (by kernel_rfl) (by exact fun _ _ _ h => h) (Or.inl ⟨by rfl, ?_⟩) (by assumption) ?_
  rotate_left
  · (intro w hSw; (try dsimp only at hSw); go_simp; try with_reducible rfl)
  try simp only [Act.put, List.setIfInBounds_toArray, List.set_cons_zero, List.set_cons_succ]
  refine wpAnyH_take (i := 12) (v := ?_) (by simp only [List.getElem?_toArray, List.getElem?_cons_succ, List.getElem?_cons_zero]; rfl) (by kernel_rfl) (by kernel_rfl) (by kernel_rfl) (by exact fun _ _ _ h => h) (Or.inl ⟨by rfl, ?_⟩) (by assumption) ?_
  rotate_left
  · (intro w hSw; (try dsimp only at hSw); go_simp; try with_reducible rfl)
  try simp only [Act.put, List.setIfInBounds_toArray, List.set_cons_zero, List.set_cons_succ]
  refine wpAnyH_take (i := 13) (v := ?_) (by simp only [List.getElem?_toArray, List.getElem?_cons_succ, List.getElem?_cons_zero]; rfl) (by kernel_rfl) (by kernel_rfl) (by kernel_rfl) (by exact fun _ _ _ h => h) (Or.inl ⟨by rfl, ?_⟩) (by assumption) ?_
  rotate_left
  · (intro w hSw; (try dsimp only at hSw); go_simp; try with_reducible rfl)
  try simp only [Act.put, List.setIfInBounds_toArray, List.set_cons_zero, List.set_cons_succ]
  refine wpAnyH_take (i := 14) (v := ?_) (by simp only [List.getElem?_toArray, List.getElem?_cons_succ, List.getElem?_cons_zero]; rfl) (by kernel_rfl) (by kernel_rfl) (by kernel_rfl) (by exact fun _ _ _ h => h) (Or.inl ⟨by rfl, ?_⟩) (by assumption) ?_
  rotate_left
  · (intro w hSw; (try dsimp only at hSw); go_simp; try with_reducible rfl)
  try simp only [Act.put, List.setIfInBounds_toArray, List.set_cons_zero, List.set_cons_succ]
  refine wpAnyH_done (by kernel_rfl) ?_ _
  have HB2 := stp HB hHeld.2
  have HA2 := hid (HA.out.below hHeld.2)
  obtain ⟨gb, go, rfl, hgl, hcs⟩ := hRow.resolve_left (by omega)
  have r1 : w2.cell? ⟨gb, go + a, none⟩ = some (.int .u32 (TM.val (l.take h) r a)) := hcs a hah
  have r2 : w2.cell? ⟨gb, go + b, none⟩ = some (.int .u32 (TM.val (l.take h) r b)) := hcs b hbh
  rw [TM.val_take r hah hlen] at r1
  rw [TM.val_take r hbh hlen] at r2
  obtain ⟨va, hva⟩ : ∃ va, TM.val l r a = va := ⟨_, rfl⟩
  obtain ⟨vb, hvb⟩ : ∃ vb, TM.val l r b = vb := ⟨_, rfl⟩
  rw [hva] at r1
  rw [hvb] at r2
  have HVv := hid (And.intro hva hvb)
  have HK := hid (fun w => WB.ask_any o va vb w)
  have j1 : (a : Int) < (h : Int) := by omega
  have j2 : (b : Int) < (h : Int) := by omega
  clear hHeld HA HR HB hldn hbw u0 u1 u2 u3 uf HV hb2 hRow hcs hva hvb
  obtain ⟨p0, p1, p2, p3, pf⟩ := HA2.out.cells
  go_wp2
  go_quiet (first | (go_at_call 33; refine Calls.quiet_of_same (HK.out _)))
  go_wp2
  go_ret2
  rw [HVv.out.1, HVv.out.2]
  exact ⟨rfl, bdrew HB2.out nq⟩
end Go.Proofs.Ytkeigicobcjleab.TB
