/-
  A state, as the document has it: the statements' own turning of one into the other, as a walk.
-/
import Derived.Test.YtejolpbdpcllkaaH9
import Derived.Test.YtejolpbdpcllkaaHC
import Derived.Deep.Cut
import Derived.Test.YtejolpbdpcllkaaHD
import Derived.Test.YtejolpbdpcllkaaH8
import Derived.Test.YtejolpbdpcllkaaHO
namespace Go.Proofs.Ytejolpbdpcllkaa.B
open Go.ChangeShapes Go.WideShapes Go.ChangeAt Go.RowKit
open Go.Sort hiding Below
set_option linter.unusedVariables false
set_option maxHeartbeats 400000 in
set_option maxRecDepth 1000000 in
theorem like_any (s : M.S) (hm : s.m.length = 16) (w : World) :
    Calls Try.prog 12 #[.agg (encS s)] w fun e w' => e = .returned (.agg (encS s)) ∧ Below w.heap.size w w' := by
  have hX3 := lcf3_eq
  have hz := s0_lit
  obtain ⟨W, hW⟩ : ∃ W, (w.alloc (.cells (encS s) 27)).alloc (.cells (encS M.s0) 33) = W := ⟨_, rfl⟩
  have hB0 : Below w.heap.size w W := by rw [← hW]; exact ((Below.refl _ w).alloc (Nat.le_refl _) _).alloc (by simp) _
  have hS : St W w.heap.size 27 s := by
    rw [← hW]; exact (St.new w 27 s hm).alloc _
  have hO : St W (w.heap.size + 1) 33 M.s0 := by
    rw [← hW]
    have := St.new (w.alloc (.cells (encS s) 27)) 33 M.s0 rfl
    simpa using this
  obtain ⟨s1, s2, s3, s4, s5⟩ := hS.cells
  have hlm := hS.loadM
  have hbt := built hm
  have hsz2 := encS_size hm
  have hsz16 := RB.enc_size hm
  obtain ⟨W5, hst, hR5, _, _, hB5⟩ := hO.store hm
  have HB5 := hid (hB5 w.heap.size w (by omega) hB0)
  have HR5 := hid hR5
  clear hB5 hR5 hS hO hB0
  go_enter Try.func12, Try.ntmps12
  go_upto_region 1 with fail
  refine wp_region_lit ?_
  iterate 12 (refine wpList_step fun K hK => ?_; go_simp; refine hK _ _ ?_; clear hK K)
  refine wpList_build (by rfl) 33 _ rfl _ ?_ (.agg (encS s)) (hbt _) ?_
  · simp [go_sem]
  clear hbt hlm s1 s2 s3 s4 s5
  go_wp2
  refine bodyPost_ret (v := .agg (encS s)) ?_ rfl ⟨rfl, HB5.out⟩
  exact results_st Try.results12 _ rfl HR5.out
end Go.Proofs.Ytejolpbdpcllkaa.B
namespace Go.Proofs.Ytejolpbdpcllkaa.B
open Go.ChangeShapes Go.WideShapes Go.ChangeAt Go.RowKit
open Go.Sort hiding Below
set_option linter.unusedVariables false

set_option maxHeartbeats 1600000 in
set_option maxRecDepth 100000 in
theorem rlocal_out (a : Option Addr) (n cap : Nat) (i : Int) (hn : n ≤ 65536) (hi : i < 0 ∨ (n : Int) ≤ i) (w : World) :
    Calls Try.prog 11 #[.slice a n cap, .int .i64 i] w fun e w' => e = .returned (.int .i64 2) ∧ w' = w := by
  by_cases h : i < 0
  · have d : decide (i < 0) = true := decide_eq_true h
    go_enter Try.func11, Try.ntmps11
    go_wp2
    go_ret
    exact ⟨rfl, rfl⟩
  · have d : decide (i < 0) = false := decide_eq_false h
    have d2 : decide ((n : Int) ≤ i) = true := decide_eq_true (by omega)
    go_enter Try.func11, Try.ntmps11
    go_wp2
    go_ret
    exact ⟨rfl, rfl⟩
theorem rlocalI (a : Option Addr) (n cap : Nat) (l : List M.I) (pc : Int) (hln : l.length = n) (hn : n ≤ 65536) (ok : ∀ x ∈ l, M.okI x) (w : World) (hl : Lies w a l) :
    Calls Try.prog 11 #[.slice a n cap, .int .i64 pc] w fun e w' => e = .returned (.int .i64 (M.locI l pc)) ∧ Below w.heap.size w w' := by
  by_cases ho : pc < 0 ∨ (l.length : Int) ≤ pc
  · rw [M.locI_out ho]
    exact (rlocal_out a n cap pc hn (by omega) w).mono fun e w' h => ⟨h.1, h.2 ▸ Below.refl _ _⟩
  · obtain ⟨p, rfl⟩ : ∃ p : Nat, pc = p := ⟨pc.toNat, by omega⟩
    have hpl : p < l.length := by omega
    obtain ⟨b, o, rfl, hly⟩ := hl.ly (by omega)
    rw [M.locI_at hpl, hln]
    exact rlocal_ly b o n cap p l hln hn hpl ok w hly
theorem quiet_like (s : M.S) (hm : s.m.length = 16) (W : World) (d : Nat) (os : Array Obj) :
    Calls Try.prog 12 #[.agg (encS s)] (grow (redrawn W d) os) fun e w' => e = .returned (.agg (encS s)) ∧ ∃ p : Regrown, w' = grow (redrawn W p.d) p.os :=
  (like_any s hm _).regrown_of

set_option maxHeartbeats 3200000 in
set_option maxRecDepth 1000000 in
theorem long_law (a : Option Addr) (n cap : Nat) (r : List Int) (s : M.S) (hn : 200 < n) (w : World) :
    Calls Try.prog 3 #[.slice a n cap, .agg (RB.enc r), .agg (encS s)] w fun e w' => e = .returned (.bool true) ∧ Below w.heap.size w w' := by
  have hd : decide (200 < (n : Int)) = true := decide_eq_true (by omega)
  have HB := hid (((Below.refl w.heap.size w).alloc (Nat.le_refl _) (.cells (RB.enc r) 25)).alloc (by simp) (.cells (encS s) 27))
  go_enter Try.func3, Try.ntmps3
  go_wp2_with fail
  refine (awake_any _).mono ?_
  rintro e w1 ⟨rfl, hb⟩
  replace HB := stp HB hb
  clear hb
  go_wp2_with fail
  refine (awake_any _).mono ?_
  rintro e w2 ⟨rfl, hb⟩
  replace HB := stp HB hb
  clear hb
  go_wp2
  go_ret
  exact ⟨rfl, HB.out⟩

set_option maxHeartbeats 3200000 in
set_option maxRecDepth 1000000 in
theorem steps_core (a : Option Addr) (n cap : Nat) (l : List M.I) (r : List Int) (s u : M.S) (e0 e1 : Int) (hn : n ≤ 200) (hr : R.okR r) (hs : M.okS s) (hu : u.m.length = 16) (w : World) (hl : Lies w a l)
    (hS : ∀ W, Lies W a l → Calls Try.prog 10 #[.slice a n cap, .agg (RB.enc r), .agg (encS s)] W fun e w' => e = .returned (.tuple #[.agg (encS u), .int .i64 e1]) ∧ Below W.heap.size W w')
    (hL : ∀ W, Lies W a l → Calls Try.prog 11 #[.slice a n cap, .int .i64 s.pc] W fun e w' => e = .returned (.int .i64 e0) ∧ Below W.heap.size W w')
    (hc : e0 ≠ 0 ∧ e1 = e0 ∧ u = M.s0 ∨ e0 = 0 ∧ s.en = true ∧ e1 = 12 ∧ u = M.s0 ∨ e0 = 0 ∧ s.en = false ∧ e1 = 0 ∧ ∀ W, Lies W a l → Calls Try.prog 13 #[.slice a n cap, .agg (RB.enc r), .agg (encS s)] W fun e w' => e = .returned (.agg (encS u)) ∧ Below W.heap.size W w') :
    Calls Try.prog 3 #[.slice a n cap, .agg (RB.enc r), .agg (encS s)] w fun e w' => e = .returned (.bool true) ∧ Below w.heap.size w w' := by
  have hd : decide (200 < (n : Int)) = false := decide_eq_false (by omega)
  have hX := RB.lcf_eq
  have hz := s0_lit
  have HS := hid hS
  have HLc := hid hL
  have HC := hid hc
  obtain ⟨W, hW⟩ : ∃ W, (w.alloc (.cells (RB.enc r) 25)).alloc (.cells (encS s) 27) = W := ⟨_, rfl⟩
  have HB : Hid (Below w.heap.size w W) := by rw [← hW]; exact hid (((Below.refl _ w).alloc (Nat.le_refl _) _).alloc (by simp) _)
  have hRc : RB.Rec W w.heap.size r := by rw [← hW]; exact (RB.Rec.new w r hr.1).alloc _
  have hSt : St W (w.heap.size + 1) 27 s := by
    rw [← hW]
    have := St.new (w.alloc (.cells (RB.enc r) 25)) 27 s hs.m.1
    simpa using this
  have HLi := hid (hl.below HB.out)
  have hsz21 := encS_size hs.m.1
  have hszu := encS_size hu
  have hsz16 := RB.enc_size hr.1
  clear hS hL hc hl
  go_enter Try.func3, Try.ntmps3
  go_wp2_with fail
  refine (awake_any _).mono ?_
  rintro e w1 ⟨rfl, hb⟩
  replace HB := stp HB hb
  replace HLi := hid (HLi.out.below hb)
  replace hRc := hRc.below hb hRc.lt
  replace hSt := hSt.below hb
  clear hb hW
  have hl21 := hSt.load
  have hl16 := hRc.load
  go_wp2_with fail
  refine (HS.out _ HLi.out).mono ?_
  rintro e w2 ⟨rfl, hb⟩
  obtain ⟨W2, hst2, hU, hb2⟩ := new_st w2 u hu
  replace HB := stp (stp HB hb) hb2
  replace HLi := hid ((HLi.out.below hb).below hb2)
  replace hRc := (hRc.below hb hRc.lt).below hb2 (hRc.below hb hRc.lt).lt
  replace hSt := (hSt.below hb).below hb2
  clear hb hb2 hl21 hl16 HS
  obtain ⟨s1, s2, s3, s4, s5⟩ := hSt.cells
  go_wp2_with fail
  refine (HLc.out _ HLi.out).mono ?_
  rintro e w3 ⟨rfl, hb⟩
  replace HB := stp HB hb
  replace HLi := hid (HLi.out.below hb)
  replace hRc := hRc.below hb hRc.lt
  replace hSt := hSt.below hb
  replace hU := hU.below hb
  clear hb s1 s2 s3 s4 s5 hst2 HLc
  obtain ⟨s1, s2, s3, s4, s5⟩ := hSt.cells
  have hlU := hU.load
  have hgK := guardK
  rcases HC.out with ⟨h0, rfl, rfl⟩ | ⟨rfl, hen, rfl, rfl⟩ | ⟨rfl, hen, rfl, hR⟩
  · have hd0 : (e1 != 0) = true := by simpa using h0
    have hb0 := bS0
    have heK := fun W => eqlK (s := M.s0) (u := M.s0) rfl rfl W
    have hss : M.sameS M.s0 M.s0 = true := same_self
    clear HC h0
    go_wp2
    go_ret
    exact ⟨rfl, HB.out⟩
  · rw [hen] at s4
    have heK := fun W => eqlK (s := M.s0) (u := M.s0) rfl rfl W
    have hss : M.sameS M.s0 M.s0 = true := same_self
    clear HC hen
    go_wp2
    go_ret
    exact ⟨rfl, HB.out⟩
  · rw [hen] at s4
    have heR := fun W => eqlR (s := u) (u := u) hu hu W
    have hss : M.sameS u u = true := same_self
    have hgR := guardR
    have HC1 := hid (quiet_like s hs.m.1 w3)
    have HC2 := hid (quiet_like u hu w3)
    have HC3 := hid (fun d os => (hR (grow (redrawn w3 d) os) (HLi.out.below (below_regrown w3 d os))).regrown_of)
    have k1 := quiet_load hSt
    have k2 := quiet_load hU
    have k3 := fun d os => (hRc.below (below_regrown w3 d os) hRc.lt).load
    clear HC hen hR hlU
    obtain ⟨Es, hEs⟩ : ∃ E, encS s = E := ⟨_, rfl⟩
    obtain ⟨Eu, hEu⟩ : ∃ E, encS u = E := ⟨_, rfl⟩
    rw [hEs] at HC1 HC3 k1 hsz21 ⊢
    rw [hEu] at HC2 HC3 k2 hszu heR ⊢
    clear hEs hEu hSt hU hs
    go_wp2_with fail
    refine wp_region_quiet_below (by kernel_rfl) (by kernel_rfl) ?_
    repeat (quiet_step (first | (go_at_call_of 12 (Value.agg Es); exact HC1.out _ _) | (go_at_call_of 12 (Value.agg Eu); exact HC2.out _ _) | (go_at_call 13; exact HC3.out _ _)))
    refine wpQuiet_nil ?_
    intro w4 hw4
    have hb : Below w3.heap.size w3 w4 := by obtain ⟨⟨d, os⟩, rfl⟩ := hw4; exact below_regrown _ _ _
    replace HB := stp HB hb
    clear hb hw4
    go_wp2
    go_ret
    exact ⟨rfl, HB.out⟩
theorem steps_law (a : Option Addr) (cap : Nat) (l : List M.I) (ok : ∀ i ∈ l, M.okI i) (r : List Int) (hr : R.okR r) (s : M.S) (hs : M.okS s) (w : World) (hl : Lies w a l) :
    Calls Try.prog 3 #[.slice a l.length cap, .agg (RB.enc r), .agg (encS s)] w fun e w' => e = .returned (.bool true) ∧ Below w.heap.size w w' := by
  by_cases hn : l.length ≤ 200
  · have hS := fun W (h : Lies W a l) => step_any a l.length cap l r s rfl (by omega) ok hr hs W h
    have hL := fun W (h : Lies W a l) => rlocalI a l.length cap l s.pc rfl (by omega) ok W h
    by_cases h0 : M.locI l s.pc = 0
    · cases he : s.en with
      | true =>
        have hA : M.stepA l r s = (M.s0, 12) := by unfold M.stepA; rw [if_neg (by rw [h0]; simp), if_pos he]
        rw [hA] at hS
        rw [h0] at hL
        exact steps_core a l.length cap l r s M.s0 0 12 hn hr hs rfl w hl hS hL (.inr (.inl ⟨rfl, he, rfl, rfl⟩))
      | false =>
        have hpc : ¬ (s.pc < 0 ∨ (l.length : Int) ≤ s.pc) := fun h => by rw [M.locI_out h] at h0; cases h0
        obtain ⟨p, hp⟩ : ∃ p : Nat, s.pc = p := ⟨s.pc.toNat, by omega⟩
        have hpl : p < l.length := by omega
        have hw : M.loc l.length p l[p] = 0 := by rw [hp, M.locI_at hpl] at h0; exact h0
        have hA : M.stepA l r s = (M.stepI l[p] r s, 0) := by
          unfold M.stepA
          rw [if_neg (by rw [h0]; simp), if_neg (by rw [he]; simp), hp, Int.toNat_natCast, List.getD_eq_getElem?_getD, List.getElem?_eq_getElem hpl]; rfl
        rw [hA] at hS
        rw [h0] at hL
        have hk := M.step_ok (ok _ (List.getElem_mem hpl)) hr hs (fun h => by
          have h2 := hw
          generalize l[p] = x at h h2
          obtain ⟨c, t, f, k⟩ := x
          simp only at h ⊢
          rcases h with h | h | h | h
          · exact M.loc_ld h2 (Or.inl h)
          · exact M.loc_ld h2 (Or.inr h)
          · exact M.loc_st h2 (Or.inl h)
          · exact M.loc_st h2 (Or.inr h))
        refine steps_core a l.length cap l r s (M.stepI l[p] r s) 0 0 hn hr hs hk.m.1 w hl hS hL (.inr (.inr ⟨rfl, he, rfl, fun W h => ?_⟩))
        obtain ⟨b, o, rfl, hly⟩ := h.ly (by omega)
        exact rstep_ly b o l.length cap p l r s rfl (by omega) hp hpl ok hr hs W hly (by rw [M.wrong_at hpl, hw]; rfl)
    · have hA : M.stepA l r s = (M.s0, M.locI l s.pc) := by unfold M.stepA; rw [if_pos h0]
      rw [hA] at hS
      exact steps_core a l.length cap l r s M.s0 _ _ hn hr hs rfl w hl hS hL (.inl ⟨h0, rfl, rfl⟩)
  · exact long_law a l.length cap r s (by omega) w
end Go.Proofs.Ytejolpbdpcllkaa.B
