/-
  The walk of the statement AtomHolds, over what the program's own functions answer.
-/
import Derived.Test.YtkeigicobcjleaaAtoMade
import Derived.Test.YtkeigicobcjleaaAtoRefE
import Derived.Test.YtkeigicobcjleaaAtoRec
import Derived.Test.YtkeigicobcjleaaTerLawV
namespace Go.Proofs.Ytkeigicobcjleaa.TB
open Go.ChangeShapes Go.WideShapes Go.ChangeAt Go.RowKit
open Go.Sort hiding Below
set_option linter.unusedVariables false
set_option maxRecDepth 100000


abbrev tmpO13 (t : Nat) : Operand := .tmp t
theorem wp_app_run13 {w w' : World} {o : Oper} {a : Act} {K : Act → World → Prop} {Q : Exit → Act → World → Prop} (s x : Operand) {vs vx v : Value} (ho : o.op = .call { callee := .builtin .append, args := #[s, x], argTypes := #[22, 22] })
    (hs : a.eval s = vs) (hx : a.eval x = vx) (hr : (Builtin.append_ #[22, 22] o.type #[vs, vx]).run Try.prog w = .ok v w') (h : K (a.put o.dst v) w') : o.wp Try.prog a w K Q := by
  unfold Oper.wp execOp
  simp only [ho, resolve, invoke, builtin, Sem.run_bind, Sem.run_pure, Result.andThen_ok, List.map_toArray, List.map_cons, List.map_nil, hs, hx, hr]
  exact h
/-- a row, copied -/
theorem run_copy {ty : Nat} (A : Option Addr) (n cap : Nat) (l : List TM.N) (hln : l.length = n) (hn : n ≤ 60000) (W : World) (hl : LiesN W A l) :
    ∃ a' cap' w', (Builtin.append_ #[22, 22] ty #[.slice (some ⟨W.heap.size, 0, none⟩) 0 0, .slice A n cap]).run Try.prog (W.alloc (.cells #[] 52)) = .ok (.slice a' n cap') w' ∧ LiesN w' a' l ∧ n ≤ cap' ∧ Below W.heap.size W w' := by
  obtain ⟨i0, hi, hz0, hz1, hz2⟩ := info_parts infoN
  rcases Nat.eq_zero_or_pos n with h0 | h0
  · subst h0
    have hLn : l = [] := List.eq_nil_of_length_eq_zero hln
    subst hLn
    exact ⟨_, _, _, run_append_none (some ⟨W.heap.size, 0, none⟩) 0 0 (Nat.le_refl _) A cap ty _, .inl rfl, Nat.le_refl _, al _ _⟩
  · have hl2 := hl.below (al W (.cells #[] 52))
    obtain ⟨b, o', rfl, hly⟩ := hl2.ly (by omega)
    have hown := own_new W
    obtain ⟨g, cap', w', hr, h1, h2, h3, _⟩ := run_append_lies (P := Try.prog) (W.alloc (.cells #[] 52)) 22 ty W.heap.size 52 i0 (.agg #[.int .i64 0, .int .i64 0, .int .i64 0, .int .u32 0]) 4 32 Try.underlying22 hi hz0 hz1 hz2 rfl (by decide) _ 0 _ hown.own ⟨b, o', none⟩ n cap (n4s l) (by rw [n4s_len, hln]) (lies_cells hly) (n4s_one l) h0 (by unfold maxLen; omega) (by omega) (by simp) _ rfl
    rw [← n4s_append] at h1
    simp only [Nat.zero_add, List.nil_append] at h1 hr
    have hO : OwnN w' W.heap.size (some ⟨g, 0, none⟩) n cap' l := ⟨h1, hln⟩
    refine ⟨_, cap', w', hr, hO.lies, hO.cap, ?_⟩
    exact (al W (.cells #[] 52)).grown h2 (al W _).size (fun k hk => by
      injection hk with hk
      exact Nat.le_of_eq hk)
set_option maxHeartbeats 3200000 in
set_option maxRecDepth 1000000 in
theorem ahold_big (hAw : Aw13) (A : Option Addr) (n cap : Nat) (o a b : Int) (nt : Bool) (r : List Int) (hk : R.okR r) (hn : 200 < n) (w : World) :
    Calls Try.prog 3 #[.slice A n cap, .agg #[.int .i64 o, .int .i64 a, .int .i64 b, .bool nt], .agg (RB.enc r)] w fun e w' => e = .returned (.bool true) ∧ Below w.heap.size w w' := by
  have hd : decide (200 < (n : Int)) = true := decide_eq_true (by omega)
  have HAw := hid hAw
  have hA0 := AAt.new w o a b nt
  have hb0 := al w (.cells #[.int .i64 o, .int .i64 a, .int .i64 b, .bool nt] 24)
  obtain ⟨wa, hwa⟩ : ∃ wa, w.alloc (.cells #[.int .i64 o, .int .i64 a, .int .i64 b, .bool nt] 24) = wa := ⟨_, rfl⟩
  rw [hwa] at hA0 hb0
  have hR0 := RB.Rec.new wa r hk.1
  have hb1 := al wa (.cells (RB.enc r) 27)
  obtain ⟨w0, hw0⟩ : ∃ w0, wa.alloc (.cells (RB.enc r) 27) = w0 := ⟨_, rfl⟩
  rw [hw0] at hR0 hb1
  have HA := hid (hA0.below hb1)
  have HB := hid (hb0.trans (hb1.mono hb0.size))
  have HRc := hid hR0
  have hXX := RB.lcf_eq
  have hsz16 := RB.enc_size hk.1
  clear hA0 hb0 hR0 hb1
  clear hn hAw
  go_enter Try.func3, Try.ntmps3
  go_wp2_with fail
  try rw [hw0]
  clear hw0 hwa
  refine (HAw.out _).mono ?_
  rintro e1 w1 ⟨rfl, hb⟩
  replace HA := hid (HA.out.below hb)
  replace HRc := hid (HRc.out.below hb HRc.out.lt)
  replace HB := stp HB hb
  clear hb
  go_wp2_with fail
  refine (HAw.out _).mono ?_
  rintro e w2 ⟨rfl, hb⟩
  replace HB := stp HB hb
  clear hb
  go_wp2
  go_ret
  exact ⟨rfl, HB.out⟩
set_option maxHeartbeats 6400000 in
set_option maxRecDepth 1000000 in
theorem ahold_none (hAw : Aw13) (hKc : KcOk) (hKh : KhOk) (hKb : KhBad) (hKt : KtOk) (A : Option Addr) (n cap : Nat) (hcap : n ≤ cap) (o a b : Int) (nt : Bool) (wo : (Lit.int .i64 o).wf = true) (wx : (Lit.int .i64 (a : Int)).wf = true) (wy : (Lit.int .i64 (b : Int)).wf = true) (r : List Int) (hk : R.okR r) (l : List TM.N) (hln : l.length = n) (hn : n ≤ 200) (ok : ∀ x ∈ l, TM.okN x) (q : Int) (hq : q ≠ 0) (hchk : TM.chkA l o a b = q) (w : World) (hl : LiesN w A l) :
    Calls Try.prog 3 #[.slice A n cap, .agg #[.int .i64 o, .int .i64 a, .int .i64 b, .bool nt], .agg (RB.enc r)] w fun e w' => e = .returned (.bool true) ∧ Below w.heap.size w w' := by
  have hd : decide (200 < (n : Int)) = false := decide_eq_false (by omega)
  have HAw := hid hAw
  have HCk := hid (fun W (h : LiesN W A l) => rcheckA A n cap l hln (by omega) ok o a b nt W h)
  have HKc := hid (fun W a9 cap9 (hc : n ≤ cap9) (h : LiesN W a9 l) => hKc a9 n cap9 l hln hc (by omega) ok o a b nt wo wx wy W h)
  rw [hchk] at HCk HKc
  have HKb := hid (fun W (h : LiesN W A l) => hKb A n cap l hln hcap (by omega) ok r hk o a b nt wo wx wy q hchk hq W h)
  have hqd : (q != 0) = true := bne_iff_ne.2 hq
  have hqq : ((q : Int) != q) = false := bne_self_eq_false _
  have HH := hid (And.intro hl (And.intro hln (show n ≤ 60000 by omega)))
  have hA0 := AAt.new w o a b nt
  have hb0 := al w (.cells #[.int .i64 o, .int .i64 a, .int .i64 b, .bool nt] 24)
  obtain ⟨wa, hwa⟩ : ∃ wa, w.alloc (.cells #[.int .i64 o, .int .i64 a, .int .i64 b, .bool nt] 24) = wa := ⟨_, rfl⟩
  rw [hwa] at hA0 hb0
  have hR0 := RB.Rec.new wa r hk.1
  have hb1 := al wa (.cells (RB.enc r) 27)
  obtain ⟨w0, hw0⟩ : ∃ w0, wa.alloc (.cells (RB.enc r) 27) = w0 := ⟨_, rfl⟩
  rw [hw0] at hR0 hb1
  have HA := hid (hA0.below hb1)
  have HB := hid (hb0.trans (hb1.mono hb0.size))
  have HRc := hid hR0
  have hXX := RB.lcf_eq
  have hsz16 := RB.enc_size hk.1
  clear hA0 hb0 hR0 hb1
  clear hAw hKc hKb hKh hln ok hl hchk wo wx wy
  go_enter Try.func3, Try.ntmps3
  go_wp2_with fail
  try rw [hw0]
  clear hw0 hwa
  refine (HAw.out _).mono ?_
  rintro e1 w1 ⟨rfl, hb⟩
  replace HA := hid (HA.out.below hb)
  replace HRc := hid (HRc.out.below hb HRc.out.lt)
  replace HB := stp HB hb
  clear hb
  clear HAw
  have hla := HA.out.load
  have hld := HRc.out.load
  go_wp2_with fail
  refine (HCk.out _ (HH.out.1.below HB.out)).mono ?_
  rintro e1 w2 ⟨rfl, hb⟩
  replace HA := hid (HA.out.below hb)
  replace HRc := hid (HRc.out.below hb HRc.out.lt)
  replace HB := stp HB hb
  clear hb HCk hla hld
  have hla := HA.out.load
  have hld := HRc.out.load
  go_wp2_with fail
  refine (HKb.out _ (HH.out.1.below HB.out)).mono ?_
  rintro e1 w3 ⟨rfl, hb⟩
  replace HA := hid (HA.out.below hb)
  replace HRc := hid (HRc.out.below hb HRc.out.lt)
  replace HB := stp HB hb
  clear hb hla hld
  obtain ⟨a0, a1, a2, a3, af⟩ := HA.out.cells
  have hla := fun (W : World) (hb : Below w3.heap.size w3 W) => (HA.out.below hb).load
  have hsz3 := HA.out.lt
  go_wp2_with fail
  refine wp_region_held_drew (S := fun w' => (∀ b o, b < w3.heap.size → w'.cell? ⟨b, o, none⟩ = w3.cell? ⟨b, o, none⟩) ∧ Below w3.heap.size w3 w') (by kernel_rfl) ?_ (fun hHeld => ?_)
  · ((try dsimp only); (go_split_ands; refine bkeepS ?_; first | exact (Below.refl _ _).drew | assumption | exact Below.trans (by assumption) (Below.mono (by assumption) (Below.size (by assumption)))))
  change wpAnyH _ _ _ _ _ 12 #[false, false, false, false, false, false, false, false, false, false, false, false] _ _
  refine wpAnyH_take (i := 1) (v := ?_) (by simp only [List.getElem?_toArray, List.getElem?_cons_succ, List.getElem?_cons_zero]; rfl) (by kernel_rfl) (by kernel_rfl) (by kernel_rfl) (by exact fun _ _ _ h => h) (Or.inl ⟨by rfl, ?_⟩) (by assumption) ?_
  rotate_left
  · (intro w hSw; (try dsimp only at hSw); go_simp; try with_reducible rfl)
  try simp only [Act.put, List.setIfInBounds_toArray, List.set_cons_zero, List.set_cons_succ]
  refine wpAnyH_take (i := 3) (v := ?_) (by simp only [List.getElem?_toArray, List.getElem?_cons_succ, List.getElem?_cons_zero]; rfl) (by kernel_rfl) (by kernel_rfl) (by kernel_rfl) (by exact fun _ _ _ h => h) (Or.inl ⟨by rfl, ?_⟩) (by assumption) ?_
  rotate_left
  · (intro w hSw; (try dsimp only at hSw); have hl3 := hla w hSw.2; go_simp; try with_reducible rfl)
  try simp only [Act.put, List.setIfInBounds_toArray, List.set_cons_zero, List.set_cons_succ]
  refine wpAnyH_take (i := 5) (v := ?_) (by simp only [List.getElem?_toArray, List.getElem?_cons_succ, List.getElem?_cons_zero]; rfl) (by kernel_rfl) (by kernel_rfl) (by kernel_rfl) (by exact fun _ _ _ h => h) (Or.inl ⟨by rfl, ?_⟩) (by assumption) ?_
  rotate_left
  · (intro w hSw; (try dsimp only at hSw); go_simp; try with_reducible rfl)
  try simp only [Act.put, List.setIfInBounds_toArray, List.set_cons_zero, List.set_cons_succ]
  refine wpAnyH_ready (rs := [0]) (by kernel_rfl) (by simp) ?_
  refine AllReadyH.cons rfl (fun K hK => ?_) AllReadyH.nil
  go_simp
  try dsimp only
  refine hK.out _ _ ?_ (fun hHeld2 => ?_)
  · exact bkeepS (hHeld.2.trans ((al _ _).mono hHeld.2.size))
  clear hK K
  obtain ⟨a9, cap9, w9, hap, hl9, hc9, hb9⟩ := run_copy (ty := 22) A n cap l HH.out.2.1 HH.out.2.2 _ (HH.out.1.below (HB.out.trans (hHeld.2.mono HB.out.size)))
  refine wpAnyH_ready (rs := [2]) (by kernel_rfl) (by simp) ?_
  refine AllReadyH.cons rfl (fun K hK => ?_) AllReadyH.nil
  rw [if_pos (by rfl)]
  refine wp_app_run13 (tmpO13 30) (tmpO13 31) rfl rfl rfl hap ?_
  refine hK.out _ _ ?_ (fun hHeld3 => ?_)
  · exact bkeepS (hHeld.2.trans (hb9.mono hHeld.2.size))
  clear hK K hap
  refine wpAnyH_ready (rs := [4]) (by kernel_rfl) (by simp) ?_
  refine AllReadyH.cons rfl (fun K hK => ?_) AllReadyH.nil
  go_simp
  go_wp2_with (go_at_call 12; refine (HKc.out _ a9 cap9 hc9 hl9).mono ?_; rintro e1 w10 ⟨rfl, hb10⟩)
  try dsimp only
  refine hK.out _ _ ?_ (fun hHeld4 => ?_)
  · exact bkeepS (hHeld3.2.trans (hb10.mono hHeld3.2.size))
  clear hK K
  refine wpAnyH_take (i := 6) (v := ?_) (by simp only [List.getElem?_toArray, List.getElem?_cons_succ, List.getElem?_cons_zero]; rfl) (by kernel_rfl) (by kernel_rfl) (by kernel_rfl) (by exact fun _ _ _ h => h) (Or.inl ⟨by rfl, ?_⟩) (by assumption) ?_
  rotate_left
  · (intro w hSw; (try dsimp only at hSw); go_simp; try with_reducible rfl)
  try simp only [Act.put, List.setIfInBounds_toArray, List.set_cons_zero, List.set_cons_succ]
  refine wpAnyH_take (i := 7) (v := ?_) (by simp only [List.getElem?_toArray, List.getElem?_cons_succ, List.getElem?_cons_zero]; rfl) (by kernel_rfl) (by kernel_rfl) (by kernel_rfl) (by exact fun _ _ _ h => h) (Or.inl ⟨by rfl, ?_⟩) (by assumption) ?_
  rotate_left
  · (intro w hSw; (try dsimp only at hSw); go_simp; try with_reducible rfl)
  try simp only [Act.put, List.setIfInBounds_toArray, List.set_cons_zero, List.set_cons_succ]
  refine wpAnyH_take (i := 8) (v := ?_) (by simp only [List.getElem?_toArray, List.getElem?_cons_succ, List.getElem?_cons_zero]; rfl) (by kernel_rfl) (by kernel_rfl) (by kernel_rfl) (by exact fun _ _ _ h => h) (Or.inl ⟨by rfl, ?_⟩) (by assumption) ?_
  rotate_left
  · (intro w hSw; (try dsimp only at hSw); go_simp; try with_reducible rfl)
  try simp only [Act.put, List.setIfInBounds_toArray, List.set_cons_zero, List.set_cons_succ]
  refine wpAnyH_take (i := 9) (v := ?_) (by simp only [List.getElem?_toArray, List.getElem?_cons_succ, List.getElem?_cons_zero]; rfl) (by kernel_rfl) (by kernel_rfl) (by kernel_rfl) (by exact fun _ _ _ h => h) (Or.inl ⟨by rfl, ?_⟩) (by assumption) ?_
  rotate_left
  · (intro w hSw; (try dsimp only at hSw); go_simp; try with_reducible rfl)
  try simp only [Act.put, List.setIfInBounds_toArray, List.set_cons_zero, List.set_cons_succ]
  refine wpAnyH_take (i := 10) (v := ?_) (by simp only [List.getElem?_toArray, List.getElem?_cons_succ, List.getElem?_cons_zero]; rfl) (by kernel_rfl) (by kernel_rfl) (by kernel_rfl) (by exact fun _ _ _ h => h) (Or.inl ⟨by rfl, ?_⟩) (by assumption) ?_
  rotate_left
  · (intro w hSw; (try dsimp only at hSw); go_simp; try with_reducible rfl)
  try simp only [Act.put, List.setIfInBounds_toArray, List.set_cons_zero, List.set_cons_succ]
  refine wpAnyH_take (i := 11) (v := ?_) (by simp only [List.getElem?_toArray, List.getElem?_cons_succ, List.getElem?_cons_zero]; rfl) (by kernel_rfl) (by kernel_rfl) (by kernel_rfl) (by exact fun _ _ _ h => h) (Or.inl ⟨by rfl, ?_⟩) (by assumption) ?_
  rotate_left
  · (intro w hSw; (try dsimp only at hSw); go_simp; try with_reducible rfl)
  try simp only [Act.put, List.setIfInBounds_toArray, List.set_cons_zero, List.set_cons_succ]
  refine wpAnyH_done (by kernel_rfl) ?_ _
  have hBF : Below w3.heap.size w3 w10 := hHeld4.2
  have HBF := stp HB hBF
  go_wp2
  go_ret
  exact ⟨rfl, HBF.out⟩
set_option maxHeartbeats 6400000 in
set_option maxRecDepth 1000000 in
theorem ahold_good (hAw : Aw13) (hKc : KcOk) (hKh : KhOk) (hKb : KhBad) (hKt : KtOk) (A : Option Addr) (n cap : Nat) (hcap : n ≤ cap) (o : Int) (a b : Nat) (nt : Bool) (wo : (Lit.int .i64 o).wf = true) (wx : (Lit.int .i64 (a : Int)).wf = true) (wy : (Lit.int .i64 (b : Int)).wf = true) (r : List Int) (hk : R.okR r) (l : List TM.N) (hln : l.length = n) (hn : n ≤ 200) (ok : ∀ x ∈ l, TM.okN x) (hrow : TM.Row l) (ho : TM.isQ o = true) (han : a < n) (hbn : b < n) (hchk : TM.chkA l o a b = 0) (w : World) (hl : LiesN w A l) :
    Calls Try.prog 3 #[.slice A n cap, .agg #[.int .i64 o, .int .i64 (a : Int), .int .i64 (b : Int), .bool nt], .agg (RB.enc r)] w fun e w' => e = .returned (.bool true) ∧ Below w.heap.size w w' := by
  have hd : decide (200 < (n : Int)) = false := decide_eq_false (by omega)
  have HAw := hid hAw
  have HCk := hid (fun W (h : LiesN W A l) => rcheckA A n cap l hln (by omega) ok o a b nt W h)
  have HKc := hid (fun W a9 cap9 (hc : n ≤ cap9) (h : LiesN W a9 l) => hKc a9 n cap9 l hln hc (by omega) ok o a b nt wo wx wy W h)
  rw [hchk] at HCk HKc
  have HKh := hid (fun W (h : LiesN W A l) (n2 : Bool) => hKh A n cap l hln hcap hrow ok r hk o a b n2 ho han hbn W h)
  have HRh := hid (fun W (h : LiesN W A l) => rholdsA A n cap l hln hrow ok r hk o a b han hbn nt W h)
  have hqq : ((0 : Int) != 0) = false := bne_self_eq_false _
  have HH := hid (And.intro hl (And.intro hln (show n ≤ 60000 by omega)))
  have hA0 := AAt.new w o a b nt
  have hb0 := al w (.cells #[.int .i64 o, .int .i64 a, .int .i64 b, .bool nt] 24)
  obtain ⟨wa, hwa⟩ : ∃ wa, w.alloc (.cells #[.int .i64 o, .int .i64 a, .int .i64 b, .bool nt] 24) = wa := ⟨_, rfl⟩
  rw [hwa] at hA0 hb0
  have hR0 := RB.Rec.new wa r hk.1
  have hb1 := al wa (.cells (RB.enc r) 27)
  obtain ⟨w0, hw0⟩ : ∃ w0, wa.alloc (.cells (RB.enc r) 27) = w0 := ⟨_, rfl⟩
  rw [hw0] at hR0 hb1
  have HA := hid (hA0.below hb1)
  have HB := hid (hb0.trans (hb1.mono hb0.size))
  have HRc := hid hR0
  have hXX := RB.lcf_eq
  have hsz16 := RB.enc_size hk.1
  clear hA0 hb0 hR0 hb1
  clear hAw hKc hKb hKh hln ok hl hchk wo wx wy
  clear hrow ho
  go_enter Try.func3, Try.ntmps3
  go_wp2_with fail
  try rw [hw0]
  clear hw0 hwa
  refine (HAw.out _).mono ?_
  rintro e1 w1 ⟨rfl, hb⟩
  replace HA := hid (HA.out.below hb)
  replace HRc := hid (HRc.out.below hb HRc.out.lt)
  replace HB := stp HB hb
  clear hb
  clear HAw
  have hla := HA.out.load
  have hld := HRc.out.load
  go_wp2_with fail
  refine (HCk.out _ (HH.out.1.below HB.out)).mono ?_
  rintro e1 w2 ⟨rfl, hb⟩
  replace HA := hid (HA.out.below hb)
  replace HRc := hid (HRc.out.below hb HRc.out.lt)
  replace HB := stp HB hb
  clear hb HCk hla hld
  have hla := HA.out.load
  have hld := HRc.out.load
  go_wp2_with fail
  refine (HKh.out _ (HH.out.1.below HB.out) nt).mono ?_
  rintro e1 w3 ⟨rfl, hb⟩
  replace HA := hid (HA.out.below hb)
  replace HRc := hid (HRc.out.below hb HRc.out.lt)
  replace HB := stp HB hb
  clear hb hla hld
  obtain ⟨a0, a1, a2, a3, af⟩ := HA.out.cells
  have hla := fun (W : World) (hb : Below w3.heap.size w3 W) => (HA.out.below hb).load
  have hsz3 := HA.out.lt
  go_wp2_with fail
  refine wp_region_held_drew (S := fun w' => (∀ b o, b < w3.heap.size → w'.cell? ⟨b, o, none⟩ = w3.cell? ⟨b, o, none⟩) ∧ Below w3.heap.size w3 w') (by kernel_rfl) ?_ (fun hHeld => ?_)
  · ((try dsimp only); (go_split_ands; refine bkeepS ?_; first | exact (Below.refl _ _).drew | assumption | exact Below.trans (by assumption) (Below.mono (by assumption) (Below.size (by assumption)))))
  change wpAnyH _ _ _ _ _ 12 #[false, false, false, false, false, false, false, false, false, false, false, false] _ _
  refine wpAnyH_take (i := 1) (v := ?_) (by simp only [List.getElem?_toArray, List.getElem?_cons_succ, List.getElem?_cons_zero]; rfl) (by kernel_rfl) (by kernel_rfl) (by kernel_rfl) (by exact fun _ _ _ h => h) (Or.inl ⟨by rfl, ?_⟩) (by assumption) ?_
  rotate_left
  · (intro w hSw; (try dsimp only at hSw); go_simp; try with_reducible rfl)
  try simp only [Act.put, List.setIfInBounds_toArray, List.set_cons_zero, List.set_cons_succ]
  refine wpAnyH_take (i := 3) (v := ?_) (by simp only [List.getElem?_toArray, List.getElem?_cons_succ, List.getElem?_cons_zero]; rfl) (by kernel_rfl) (by kernel_rfl) (by kernel_rfl) (by exact fun _ _ _ h => h) (Or.inl ⟨by rfl, ?_⟩) (by assumption) ?_
  rotate_left
  · (intro w hSw; (try dsimp only at hSw); have hl3 := hla w hSw.2; go_simp; try with_reducible rfl)
  try simp only [Act.put, List.setIfInBounds_toArray, List.set_cons_zero, List.set_cons_succ]
  refine wpAnyH_take (i := 5) (v := ?_) (by simp only [List.getElem?_toArray, List.getElem?_cons_succ, List.getElem?_cons_zero]; rfl) (by kernel_rfl) (by kernel_rfl) (by kernel_rfl) (by exact fun _ _ _ h => h) (Or.inl ⟨by rfl, ?_⟩) (by assumption) ?_
  rotate_left
  · (intro w hSw; (try dsimp only at hSw); go_simp; try with_reducible rfl)
  try simp only [Act.put, List.setIfInBounds_toArray, List.set_cons_zero, List.set_cons_succ]
  refine wpAnyH_ready (rs := [0]) (by kernel_rfl) (by simp) ?_
  refine AllReadyH.cons rfl (fun K hK => ?_) AllReadyH.nil
  go_simp
  try dsimp only
  refine hK.out _ _ ?_ (fun hHeld2 => ?_)
  · exact bkeepS (hHeld.2.trans ((al _ _).mono hHeld.2.size))
  clear hK K
  obtain ⟨a9, cap9, w9, hap, hl9, hc9, hb9⟩ := run_copy (ty := 22) A n cap l HH.out.2.1 HH.out.2.2 _ (HH.out.1.below (HB.out.trans (hHeld.2.mono HB.out.size)))
  refine wpAnyH_ready (rs := [2]) (by kernel_rfl) (by simp) ?_
  refine AllReadyH.cons rfl (fun K hK => ?_) AllReadyH.nil
  rw [if_pos (by rfl)]
  refine wp_app_run13 (tmpO13 30) (tmpO13 31) rfl rfl rfl hap ?_
  refine hK.out _ _ ?_ (fun hHeld3 => ?_)
  · exact bkeepS (hHeld.2.trans (hb9.mono hHeld.2.size))
  clear hK K hap
  refine wpAnyH_ready (rs := [4]) (by kernel_rfl) (by simp) ?_
  refine AllReadyH.cons rfl (fun K hK => ?_) AllReadyH.nil
  go_simp
  go_wp2_with (go_at_call 12; refine (HKc.out _ a9 cap9 hc9 hl9).mono ?_; rintro e1 w10 ⟨rfl, hb10⟩)
  try dsimp only
  refine hK.out _ _ ?_ (fun hHeld4 => ?_)
  · exact bkeepS (hHeld3.2.trans (hb10.mono hHeld3.2.size))
  clear hK K
  refine wpAnyH_take (i := 6) (v := ?_) (by simp only [List.getElem?_toArray, List.getElem?_cons_succ, List.getElem?_cons_zero]; rfl) (by kernel_rfl) (by kernel_rfl) (by kernel_rfl) (by exact fun _ _ _ h => h) (Or.inl ⟨by rfl, ?_⟩) (by assumption) ?_
  rotate_left
  · (intro w hSw; (try dsimp only at hSw); go_simp; try with_reducible rfl)
  try simp only [Act.put, List.setIfInBounds_toArray, List.set_cons_zero, List.set_cons_succ]
  refine wpAnyH_take (i := 7) (v := ?_) (by simp only [List.getElem?_toArray, List.getElem?_cons_succ, List.getElem?_cons_zero]; rfl) (by kernel_rfl) (by kernel_rfl) (by kernel_rfl) (by exact fun _ _ _ h => h) (Or.inl ⟨by rfl, ?_⟩) (by assumption) ?_
  rotate_left
  · (intro w hSw; (try dsimp only at hSw); go_simp; try with_reducible rfl)
  try simp only [Act.put, List.setIfInBounds_toArray, List.set_cons_zero, List.set_cons_succ]
  refine wpAnyH_take (i := 8) (v := ?_) (by simp only [List.getElem?_toArray, List.getElem?_cons_succ, List.getElem?_cons_zero]; rfl) (by kernel_rfl) (by kernel_rfl) (by kernel_rfl) (by exact fun _ _ _ h => h) (Or.inl ⟨by rfl, ?_⟩) (by assumption) ?_
  rotate_left
  · (intro w hSw; (try dsimp only at hSw); go_simp; try with_reducible rfl)
  try simp only [Act.put, List.setIfInBounds_toArray, List.set_cons_zero, List.set_cons_succ]
  refine wpAnyH_take (i := 9) (v := ?_) (by simp only [List.getElem?_toArray, List.getElem?_cons_succ, List.getElem?_cons_zero]; rfl) (by kernel_rfl) (by kernel_rfl) (by kernel_rfl) (by exact fun _ _ _ h => h) (Or.inl ⟨by rfl, ?_⟩) (by assumption) ?_
  rotate_left
  · (intro w hSw; (try dsimp only at hSw); go_simp; try with_reducible rfl)
  try simp only [Act.put, List.setIfInBounds_toArray, List.set_cons_zero, List.set_cons_succ]
  refine wpAnyH_take (i := 10) (v := ?_) (by simp only [List.getElem?_toArray, List.getElem?_cons_succ, List.getElem?_cons_zero]; rfl) (by kernel_rfl) (by kernel_rfl) (by kernel_rfl) (by exact fun _ _ _ h => h) (Or.inl ⟨by rfl, ?_⟩) (by assumption) ?_
  rotate_left
  · (intro w hSw; (try dsimp only at hSw); go_simp; try with_reducible rfl)
  try simp only [Act.put, List.setIfInBounds_toArray, List.set_cons_zero, List.set_cons_succ]
  refine wpAnyH_take (i := 11) (v := ?_) (by simp only [List.getElem?_toArray, List.getElem?_cons_succ, List.getElem?_cons_zero]; rfl) (by kernel_rfl) (by kernel_rfl) (by kernel_rfl) (by exact fun _ _ _ h => h) (Or.inl ⟨by rfl, ?_⟩) (by assumption) ?_
  rotate_left
  · (intro w hSw; (try dsimp only at hSw); go_simp; try with_reducible rfl)
  try simp only [Act.put, List.setIfInBounds_toArray, List.set_cons_zero, List.set_cons_succ]
  refine wpAnyH_done (by kernel_rfl) ?_ _
  have hBF : Below w3.heap.size w3 w10 := hHeld4.2
  have HBF := stp HB hBF
  have HA4 := hid (HA.out.below hBF)
  have HR4 := hid (HRc.out.below hBF HRc.out.lt)
  clear hla
  obtain ⟨X, hX⟩ : ∃ X, WM.ask o (TM.val l r a) (TM.val l r b) = X := ⟨_, rfl⟩
  have HKh2 := hid (fun W (h : LiesN W A l) => HKh.out W h (!nt))
  rw [hX] at HKh2 HRh
  have HXe := hid hX
  clear HKh hX
  have hla4 := fun (W : World) (hb : Below w10.heap.size w10 W) => (HA4.out.below hb).load
  have hld4 := fun (W : World) (hb : Below w10.heap.size w10 W) => (HR4.out.below hb HR4.out.lt).load
  have HLA := hid (HH.out.1.below HBF.out)
  go_upto_region 9 with fail
  refine wp_region_held_drew (S := fun w' => (∀ b o, b < w10.heap.size → w'.cell? ⟨b, o, none⟩ = w10.cell? ⟨b, o, none⟩) ∧ Below w10.heap.size w10 w') (by kernel_rfl) ?_ (fun hHeld => ?_)
  · ((try dsimp only); (go_split_ands; refine bkeepS ?_; first | exact (Below.refl _ _).drew | assumption | exact Below.trans (by assumption) (Below.mono (by assumption) (Below.size (by assumption)))))
  change wpAnyH _ _ _ _ _ 10 #[false, false, false, false, false, false, false, false, false, false] _ _
  refine wpAnyH_take (i := 0) (v := ?_) (by simp only [List.getElem?_toArray, List.getElem?_cons_zero]; rfl) (by kernel_rfl) (by kernel_rfl) (by kernel_rfl) (by exact fun _ _ _ h => h) (Or.inl ⟨by rfl, ?_⟩) (by assumption) ?_
  rotate_left
  · (intro w hSw; (try dsimp only at hSw); go_simp; try with_reducible rfl)
  try simp only [Act.put, List.setIfInBounds_toArray, List.set_cons_zero, List.set_cons_succ]
  refine wpAnyH_take (i := 1) (v := ?_) (by simp only [List.getElem?_toArray, List.getElem?_cons_succ, List.getElem?_cons_zero]; rfl) (by kernel_rfl) (by kernel_rfl) (by kernel_rfl) (by exact fun _ _ _ h => h) (Or.inl ⟨by rfl, ?_⟩) (by assumption) ?_
  rotate_left
  · (intro w hSw; (try dsimp only at hSw); have hl3 := hla4 w hSw.2; go_simp; try with_reducible rfl)
  try simp only [Act.put, List.setIfInBounds_toArray, List.set_cons_zero, List.set_cons_succ]
  refine wpAnyH_take (i := 3) (v := ?_) (by simp only [List.getElem?_toArray, List.getElem?_cons_succ, List.getElem?_cons_zero]; rfl) (by kernel_rfl) (by kernel_rfl) (by kernel_rfl) (by exact fun _ _ _ h => h) (Or.inl ⟨by rfl, ?_⟩) (by assumption) ?_
  rotate_left
  · (intro w hSw; (try dsimp only at hSw); have hl3 := hld4 w hSw.2; go_simp; try with_reducible rfl)
  try simp only [Act.put, List.setIfInBounds_toArray, List.set_cons_zero, List.set_cons_succ]
  refine wpAnyH_ready (rs := [2]) (by kernel_rfl) (by simp) ?_
  refine AllReadyH.cons rfl (fun K hK => ?_) AllReadyH.nil
  go_simp
  go_wp2_with (go_at_call 13; refine (hKt _ o a b nt).mono ?_; rintro e1 w11 ⟨rfl, hb11⟩)
  try dsimp only
  refine hK.out _ _ ?_ (fun hHeld => ?_)
  · ((try dsimp only); first | assumption | (go_split_ands; refine bkeepS ?_; first | exact (Below.refl _ _).drew | assumption | exact Below.trans (by assumption) (Below.mono (by assumption) (Below.size (by assumption)))))
  clear hK K
  refine wpAnyH_ready (rs := [4]) (by kernel_rfl) (by simp) ?_
  refine AllReadyH.cons rfl (fun K hK => ?_) AllReadyH.nil
  go_simp
  go_wp2_with (go_at_call 11; refine (HKh2.out _ (HLA.out.below hHeld.2)).mono ?_; rintro e1 w12 ⟨rfl, hb12⟩)
  try dsimp only
  refine hK.out _ _ ?_ (fun hHeld => ?_)
  · ((try dsimp only); first | assumption | (go_split_ands; refine bkeepS ?_; first | exact (Below.refl _ _).drew | assumption | exact Below.trans (by assumption) (Below.mono (by assumption) (Below.size (by assumption)))))
  clear hK K
  refine wpAnyH_take (i := 5) (v := ?_) (by simp only [List.getElem?_toArray, List.getElem?_cons_succ, List.getElem?_cons_zero]; rfl) (by kernel_rfl) (by kernel_rfl) (by kernel_rfl) (by exact fun _ _ _ h => h) (Or.inl ⟨by rfl, ?_⟩) (by assumption) ?_
  rotate_left
  · (intro w hSw; (try dsimp only at hSw); go_simp; try with_reducible rfl)
  try simp only [Act.put, List.setIfInBounds_toArray, List.set_cons_zero, List.set_cons_succ]
  refine wpAnyH_take (i := 6) (v := ?_) (by simp only [List.getElem?_toArray, List.getElem?_cons_succ, List.getElem?_cons_zero]; rfl) (by kernel_rfl) (by kernel_rfl) (by kernel_rfl) (by exact fun _ _ _ h => h) (Or.inl ⟨by rfl, ?_⟩) (by assumption) ?_
  rotate_left
  · (intro w hSw; (try dsimp only at hSw); go_simp; try with_reducible rfl)
  try simp only [Act.put, List.setIfInBounds_toArray, List.set_cons_zero, List.set_cons_succ]
  refine wpAnyH_take (i := 7) (v := ?_) (by simp only [List.getElem?_toArray, List.getElem?_cons_succ, List.getElem?_cons_zero]; rfl) (by kernel_rfl) (by kernel_rfl) (by kernel_rfl) (by exact fun _ _ _ h => h) (Or.inl ⟨by rfl, ?_⟩) (by assumption) ?_
  rotate_left
  · (intro w hSw; (try dsimp only at hSw); go_simp; try with_reducible rfl)
  try simp only [Act.put, List.setIfInBounds_toArray, List.set_cons_zero, List.set_cons_succ]
  refine wpAnyH_take (i := 8) (v := ?_) (by simp only [List.getElem?_toArray, List.getElem?_cons_succ, List.getElem?_cons_zero]; rfl) (by kernel_rfl) (by kernel_rfl) (by kernel_rfl) (by exact fun _ _ _ h => h) (Or.inl ⟨by rfl, ?_⟩) (by assumption) ?_
  rotate_left
  · (intro w hSw; (try dsimp only at hSw); go_simp; try with_reducible rfl)
  try simp only [Act.put, List.setIfInBounds_toArray, List.set_cons_zero, List.set_cons_succ]
  refine wpAnyH_take (i := 9) (v := ?_) (by simp only [List.getElem?_toArray, List.getElem?_cons_succ, List.getElem?_cons_zero]; rfl) (by kernel_rfl) (by kernel_rfl) (by kernel_rfl) (by exact fun _ _ _ h => h) (Or.inl ⟨by rfl, ?_⟩) (by assumption) ?_
  rotate_left
  · (intro w hSw; (try dsimp only at hSw); go_simp; try with_reducible rfl)
  try simp only [Act.put, List.setIfInBounds_toArray, List.set_cons_zero, List.set_cons_succ]
  refine wpAnyH_done (by kernel_rfl) ?_ _
  have hB12 : Below w10.heap.size w10 w12 := hHeld.2
  have HB12 := stp HBF hB12
  have HA5 := (HA4.out.below hB12)
  have HR5 := (HR4.out.below hB12 HR4.out.lt)
  have hla5 := HA5.load
  have hld5 := HR5.load
  clear hla4 hld4
  go_wp2_with fail
  refine (HRh.out _ (HLA.out.below hB12)).mono ?_
  rintro e1 w13 ⟨rfl, hb⟩
  have HBn := stp HB12 hb
  clear hb
  rw [HXe.out]
  cases X <;> cases nt
  all_goals
    go_wp2
    go_ret
    exact ⟨rfl, HBn.out⟩
theorem ahold_law (hAw : Aw13) (hKc : KcOk) (hKh : KhOk) (hKb : KhBad) (hKt : KtOk) (A : Option Addr) (cap : Nat) (o a b : Int) (nt : Bool) (wo : (Lit.int .i64 o).wf = true) (wx : (Lit.int .i64 a).wf = true) (wy : (Lit.int .i64 b).wf = true) (r : List Int) (hk : R.okR r) (l : List TM.N) (hcap : l.length ≤ cap) (ok : ∀ x ∈ l, TM.okN x) (w : World) (hl : LiesN w A l) :
    Calls Try.prog 3 #[.slice A l.length cap, .agg #[.int .i64 o, .int .i64 a, .int .i64 b, .bool nt], .agg (RB.enc r)] w fun e w' => e = .returned (.bool true) ∧ Below w.heap.size w w' := by
  by_cases h : 200 < l.length
  · exact ahold_big hAw A l.length cap o a b nt r hk h w
  · obtain ⟨q, hq⟩ : ∃ q, TM.chkA l o a b = q := ⟨_, rfl⟩
    by_cases hq0 : q = 0
    · subst hq0
      have hq' := hq
      unfold TM.chkA at hq
      cases hr : TM.rowB l with
      | false => rw [hr, if_neg (by decide)] at hq; exact absurd hq (by decide)
      | true =>
        rw [hr, if_pos rfl] at hq
        cases ho : TM.isQ o with
        | false => rw [ho, if_neg (by decide)] at hq; exact absurd hq (by decide)
        | true =>
          rw [ho, if_pos rfl] at hq
          have hin : ¬ (a < 0 ∨ (l.length : Int) ≤ a ∨ b < 0 ∨ (l.length : Int) ≤ b) := fun e => by rw [if_pos e] at hq; exact absurd hq (by decide)
          obtain ⟨a', rfl⟩ : ∃ a' : Nat, a = a' := ⟨a.toNat, by omega⟩
          obtain ⟨b', rfl⟩ : ∃ b' : Nat, b = b' := ⟨b.toNat, by omega⟩
          exact ahold_good hAw hKc hKh hKb hKt A l.length cap hcap o a' b' nt wo wx wy r hk l rfl (by omega) ok (TM.row_iff.1 hr) ho (by omega) (by omega) hq' w hl
    · exact ahold_none hAw hKc hKh hKb hKt A l.length cap hcap o a b nt wo wx wy r hk l rfl (by omega) ok q hq0 hq w hl
end Go.Proofs.Ytkeigicobcjleaa.TB
