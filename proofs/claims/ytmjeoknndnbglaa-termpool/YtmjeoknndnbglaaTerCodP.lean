/-
  The program's pool of layer 11: Put of a new node, walked.
-/
import Derived.Test.YtmjeoknndnbglaaTerCodO
namespace Go.Proofs.Ytmjeoknndnbglaa.TB
open Go.ChangeShapes Go.WideShapes Go.ChangeAt Go.RowKit Go.Maps
open Go.Sort hiding Below
set_option linter.unusedVariables false
set_option maxRecDepth 100000

theorem Mp.look0 {W : World} {mo : Option Nat} {L : List TM.N} (h : Mp W mo L) {x : TM.N} (ok : TM.okN x) (hf : TM.fnd L x = none) : (Instr.lookup 82 (.map mo) (nv x) true).run Try.prog W = .ok (.tuple #[.int .i64 0, .bool false]) W := by
  rcases h with ⟨rfl, rfl⟩ | ⟨mb, rfl, D, hm, hD⟩
  · exact Maps.look_nil (w := W) true lawN Try.underlying82 (zeroi W) (keyN ok)
  · obtain ⟨v, ps, hrun, hv⟩ := hm.look_ok lawN Try.underlying82 (zeroi W) (plainElem_int Try.underlying3 (by decide)) (keyN ok)
    obtain ⟨c, rfl, hc, hwc⟩ := plainElem_int_inv Try.underlying3 hv
    have hh := (hD x ok).2 hf
    have hc := congrArg Prod.fst hc
    rw [Maps.atKey_of_not_has hh] at hc
    have hc2 : DataW.lit (H := Unit) (.int .i64 0) = .lit (.int .i64 c) := hc
    injection hc2 with hc2
    injection hc2 with _ hc2
    rw [hrun, hh, ← hc2]

abbrev tmpO (t : Nat) : Operand := .tmp t
theorem wp_app_run {w w' : World} {o : Oper} {a : Act} {K : Act → World → Prop} {Q : Exit → Act → World → Prop} (s x : Operand) {vs vx v : Value} (ho : o.op = .call { callee := .builtin .append, args := #[s, x], argTypes := #[22, 22] })
    (hs : a.eval s = vs) (hx : a.eval x = vx) (hr : (Builtin.append_ #[22, 22] o.type #[vs, vx]).run Try.prog w = .ok v w') (h : K (a.put o.dst v) w') : o.wp Try.prog a w K Q := by
  unfold Oper.wp execOp
  simp only [ho, resolve, invoke, builtin, Sem.run_bind, Sem.run_pure, Result.andThen_ok, List.map_toArray, List.map_cons, List.map_nil, hs, hx, hr]
  exact h
set_option maxHeartbeats 6400000 in
theorem put_new (W : World) (b : Nat) (a : Option Addr) (c : Nat) (mo : Option Nat) (L : List TM.N) (xo xa xb xk : Int) (ok : TM.okN (xo, xa, xb, xk)) (h : Pb W b a c mo L) (hm : TM.may (xo, xa, xb, xk) L.length = true) (hlen : L.length < 65536) (hf : TM.fnd L (xo, xa, xb, xk) = none) :
    Calls Try.prog 23 #[.pointer (some ⟨b, 0, none⟩), .agg #[.int .i64 xo, .int .i64 xa, .int .i64 xb, .int .u32 xk]] W fun e w' => ∃ g cap' mb, e = .returned (.tuple #[.int .i64 (L.length : Int), .int .i64 0]) ∧ Pb w' b (some ⟨g, 0, none⟩) cap' (some mb) (L ++ [(xo, xa, xb, xk)]) ∧ Fr W w' (Fb b a mo) ∧ (blk a = some g ∨ W.heap.size ≤ g) ∧ (mo = some mb ∨ W.heap.size ≤ mb) := by
  have HB := hid (al W (.cells #[.int .i64 xo, .int .i64 xa, .int .i64 xb, .int .u32 xk] 56))
  have HN := hid (NAt.new W xo xa xb xk)
  have HP := hid (h.below HB.out)
  obtain ⟨c0, c1, cf⟩ := HP.out.cells
  have HC := hid (fun W => cstands xo xa xb xk ok L.length W true hm)
  have HL := hid (fun W (hM : Mp W mo L) => hM.look0 ok hf)
  have HO := hid (And.intro ok (And.intro hf hlen))
  have hn2 : L.length < 65536 := hlen
  have HLT := hid (fun k => h.lt k)
  clear h hm hf ok hlen
  have hqm := eqNilM
  have hmm := @run_makeMap Try.prog
  go_enter Try.func23, Try.ntmps23
  go_wp2_with fail
  refine (HC.out _).mono ?_
  rintro e w1 ⟨rfl, hb⟩
  have HP1 := hid (HP.out.below hb)
  have HB1 := stp HB hb
  have HN1 := hid (HN.out.below hb)
  clear hb HP HB HN HC c0 c1 cf
  obtain ⟨c0, c1, cf⟩ := HP1.out.cells
  obtain ⟨q0, q1, q2, q3, qf⟩ := HN1.out.cells
  have hlk : ∀ d, (Instr.lookup 82 (.map mo) (.agg #[.int .i64 xo, .int .i64 xa, .int .i64 xb, .int .u32 xk]) true).run Try.prog (w1.drewN d) = .ok (.tuple #[.int .i64 0, .bool false]) (w1.drewN d) := fun d => HL.out (w1.drewN d) (HP1.out.map.keep (fun _ _ => rfl))
  have dn : decide ((65536 : Int) ≤ (L.length : Int)) = false := decide_eq_false (by omega)
  go_wp2
  go_quiet (fail)
  clear hlk HL
  cases mo with
  | some mb =>
    go_wp2
    have HPz := hid (show Pb (w1.drewN nq) b a c (some mb) L from HP1.out.keep (fun _ _ => rfl))
    have HNz := hid (show NAt (w1.drewN nq) W.heap.size (xo, xa, xb, xk) from HN1.out)
    have HFz := hid (show Fr W (w1.drewN nq) (Fb b a (some mb)) from Fr.of_below (bdrew HB1.out nq))
    clear HP1 HN1 HB1 c0 c1 cf q0 q1 q2 q3 qf
    have Hmb := hid (show (Fb b a (some mb)) mb ∨ W.heap.size ≤ mb from .inl (.inr (.inr rfl)))
    generalize w1.drewN nq = Wz at *
    obtain ⟨c0, c1, cf⟩ := HPz.out.cells
    obtain ⟨q0, q1, q2, q3, qf⟩ := HNz.out.cells

    -- from here on: the world Wz, the map at mb
    obtain ⟨W3, hup, hD3, hT3⟩ := Mp.more (W := Wz.drew) (HPz.out.map.keep (fun _ _ => rfl)) HO.out.1 HO.out.2.1 HO.out.2.2
    have hmbN : mb ≠ W.heap.size := by
      intro e
      have h1 := HNz.out
      rcases HPz.out.map with ⟨e1, _⟩ | ⟨mb', e1, D, ⟨es, ck, h2, _⟩, _⟩
      · cases e1
      · injection e1 with e1
        unfold NAt at h1
        rw [← e1, e, h1] at h2
        cases h2
    have hbmb : mb ≠ b := fun e => HPz.out.n2 (by rw [e])
    have hb0 := HPz.out.lt b (.inl rfl)
    have e3 : W3.heap[b]? = Wz.heap[b]? := hT3.grown.block b hb0 (fun e => hbmb (by injection e with e; exact e.symm))
    have eN : W3.heap[W.heap.size]? = Wz.heap[W.heap.size]? := hT3.grown.block _ HNz.out.lt (fun e => hmbN (by injection e with e; exact e.symm))
    have hN3 : NAt W3 W.heap.size (xo, xa, xb, xk) := by unfold NAt; rw [eN]; exact HNz.out
    have hO3 : OwnN W3 0 a L.length c L := HPz.out.own.keep (fun k e => hT3.grown.block k (HPz.out.lt k (.inr (.inl e))) (fun e2 => HPz.out.n3 mb rfl (by rw [e, e2])))
    have hO4 : OwnN (W3.drew.alloc (.cells #[.int .i64 xo, .int .i64 xa, .int .i64 xb, .int .u32 xk] 56)) 0 a L.length c L := OwnN.below (W := W3.drew) (hO3.keep (fun _ _ => rfl)) (al _ _)
    obtain ⟨g, cap', W4, hap, hOw, hgr, hgo⟩ := run_app1 (ty := 22) (c := 1) hO4 (ly_one W3.drew (xo, xa, xb, xk)) (by have := HPz.out.len; omega) (Nat.zero_le _)
    have hGz : Wz.grownBy W3.drew (some mb) := ⟨hT3.grown.os, hT3.grown.tape, hT3.grown.output, hT3.grown.size, hT3.grown.block⟩
    have HZ := hid (HPz.out.more HO.out.1 HO.out.2.1 HO.out.2.2 hGz (hD3.keep (fun _ _ => rfl)) hOw hgr hgo)
    have HG := hid (show Fr W (W4.setCell ⟨b, 0, none⟩ (.slice (some ⟨g, 0, none⟩) (L.length + 1) cap')) (Fb b a (some mb)) ∧ (blk a = some g ∨ W.heap.size ≤ g) from by
      have hWz := HFz.out.size
      have hs3 := hT3.grown.size
      have hal : (W3.drew.alloc (.cells #[.int .i64 xo, .int .i64 xa, .int .i64 xb, .int .u32 xk] 56)).heap.size = W3.heap.size + 1 := by simp
      have hs3' : Wz.heap.size ≤ W3.heap.size := hs3
      refine ⟨(((HFz.out.grown hGz (fun k e => by injection e with e; rw [← e]; exact Hmb.out)).below2 (al _ _)).grown hgr (fun k e => .inl (.inr (.inl e)))).grown (setG _ _ _ _) (fun k e => by injection e with e; exact .inl (.inl e.symm)), ?_⟩
      rcases hgo with e | e
      · exact .inl e
      · right; omega)
    have HMb := hid (show (some mb) = some mb ∨ W.heap.size ≤ mb from by
      rcases Hmb.out with (e | e | e) | e
      · exact absurd e hbmb
      · exact absurd e (HPz.out.n3 mb rfl)
      · exact .inl e
      · exact .inr e)
    have hup2 : (Instr.mapUpdate 82 (.map (some mb)) (.agg #[.int .i64 xo, .int .i64 xa, .int .i64 xb, .int .u32 xk]) (.int .i64 (L.length : Int))).run Try.prog Wz.drew = .ok () W3 := hup
    have hb4 : W4.heap[b]? = Wz.heap[b]? := (hgr.block b (by have := hT3.grown.size; have h9 : Wz.heap.size ≤ W3.heap.size := this; simp; omega) (fun e => HPz.out.n1 e.symm)).trans ((Below.heap_alloc W3.drew _ b (by have := hT3.grown.size; have h9 : Wz.heap.size ≤ W3.heap.size := this; show b < W3.heap.size; omega)).trans e3)
    have s3c : W3.cell? ⟨b, 0, none⟩ = some (.slice a L.length c) := (World.cell?_of_block e3).trans c0
    have s3a : (W3.alloc (.cells #[.int .i64 xo, .int .i64 xa, .int .i64 xb, .int .u32 xk] 56)).cell? ⟨b, 0, none⟩ = some (.slice a L.length c) := (World.cell?_of_block (Below.heap_alloc W3 _ b (by have := hT3.grown.size; have h9 : Wz.heap.size ≤ W3.heap.size := this; omega))).trans s3c
    have s4c : W4.cell? ⟨b, 0, none⟩ = some (.slice a L.length c) := (World.cell?_of_block hb4).trans c0
    have s4f : W4.frozen? ⟨b, 0, none⟩ = false := (World.frozen?_of_block hb4).trans (cf 0)
    obtain ⟨u0, u1, u2, u3, uf⟩ := hN3.cells
    have hap2 : (Builtin.append_ #[22, 22] 22 #[.slice a L.length c, .slice (some ⟨W3.heap.size, 0, none⟩) 1 1]).run Try.prog (W3.drew.alloc (.cells #[.int .i64 xo, .int .i64 xa, .int .i64 xb, .int .u32 xk] 56)) = .ok (.slice (some ⟨g, 0, none⟩) (L.length + 1) cap') W4 := hap
    clear hap hup hO4 hO3 hOw hgr hgo hGz hD3 hT3 hb4 e3 eN HPz HNz HFz HO hN3 Hmb hb0
    go_region_with (fail)
    all_goals
      clear c0 c1 cf q0 q1 q2 q3 qf hup2
      go_wp2
      refine wp_region_any (by kernel_rfl) ?_
      change wpAny _ _ _ _ _ _ _ (World.drew _)
      refine wpAny_take (i := 0) (v := ?_) rfl (by kernel_rfl) (by kernel_rfl) (by kernel_rfl) (fun _ _ _ h => h) (Or.inl ⟨by rfl, ?_⟩) ?_
      rotate_left
      · (intro w; go_simp; try with_reducible rfl)
      refine wpAny_take (i := 1) (v := ?_) rfl (by kernel_rfl) (by kernel_rfl) (by kernel_rfl) (fun _ _ _ h => h) (Or.inl ⟨by rfl, ?_⟩) ?_
      rotate_left
      · (intro w; go_simp; try with_reducible rfl)
      refine wpAny_take (i := 2) (v := ?_) rfl (by kernel_rfl) (by kernel_rfl) (by kernel_rfl) (fun _ _ _ h => h) (Or.inl ⟨by rfl, ?_⟩) ?_
      rotate_left
      · (intro w; go_simp; try with_reducible rfl)
      refine wpAny_take (i := 3) (v := ?_) rfl (by kernel_rfl) (by kernel_rfl) (by kernel_rfl) (fun _ _ _ h => h) (Or.inl ⟨by rfl, ?_⟩) ?_
      rotate_left
      · (intro w; go_simp; try with_reducible rfl)
      refine wpAny_ready (rs := [4, 5]) (by kernel_rfl) (by simp) ?_
      refine AllReady.cons rfl (fun K hK => ?_) (AllReady.cons rfl (fun K hK => ?_) AllReady.nil)
      · go_simp
        refine hK _ _ ?_
        clear hK K
        refine wpAny_ready (rs := [5]) (by kernel_rfl) (by simp) ?_
        refine AllReady.cons rfl (fun K hK => ?_) AllReady.nil
        go_simp
        refine hK _ _ ?_
        clear hK K
        refine wpAny_ready (rs := [6]) (by kernel_rfl) (by simp) ?_
        refine AllReady.cons rfl (fun K hK => ?_) AllReady.nil
        go_simp
        refine hK _ _ ?_
        clear hK K
        refine wpAny_ready (rs := [7]) (by kernel_rfl) (by simp) ?_
        refine AllReady.cons rfl (fun K hK => ?_) AllReady.nil
        rw [if_pos (by rfl)]
        refine wp_app_run (tmpO 52) (tmpO 54) rfl (vs := .slice a L.length c) (vx := .slice (some ⟨W3.heap.size, 0, none⟩) 1 1) rfl rfl hap2 ?_
        refine hK _ _ ?_
        clear hK K
        refine wpAny_take (i := 8) (v := ?_) rfl (by kernel_rfl) (by kernel_rfl) (by kernel_rfl) (fun _ _ _ h => h) (Or.inl ⟨by rfl, ?_⟩) ?_
        rotate_left
        · (intro w; go_simp; try with_reducible rfl)
        refine wpAny_take (i := 9) (v := ?_) rfl (by kernel_rfl) (by kernel_rfl) (by kernel_rfl) (fun _ _ _ h => h) (Or.inl ⟨by rfl, ?_⟩) ?_
        rotate_left
        · (intro w; go_simp; try with_reducible rfl)
        refine wpAny_ready (rs := [10]) (by kernel_rfl) (by simp) ?_
        refine AllReady.cons rfl (fun K hK => ?_) AllReady.nil
        go_simp
        refine hK _ _ ?_
        clear hK K
        refine wpAny_done (by kernel_rfl) ?_ _
        go_wp2
        go_ret2
        exact ⟨g, cap', mb, rfl, HZ.out, HG.out.1, HG.out.2, by first | exact HMb.out | exact .inl rfl | exact .inr HMb.out⟩
      · go_simp
        refine hK _ _ ?_
        clear hK K
        refine wpAny_ready (rs := [4, 6]) (by kernel_rfl) (by simp) ?_
        refine AllReady.cons rfl (fun K hK => ?_) (AllReady.cons rfl (fun K hK => ?_) AllReady.nil)
        · go_simp
          refine hK _ _ ?_
          clear hK K
          refine wpAny_ready (rs := [6]) (by kernel_rfl) (by simp) ?_
          refine AllReady.cons rfl (fun K hK => ?_) AllReady.nil
          go_simp
          refine hK _ _ ?_
          clear hK K
          refine wpAny_ready (rs := [7]) (by kernel_rfl) (by simp) ?_
          refine AllReady.cons rfl (fun K hK => ?_) AllReady.nil
          rw [if_pos (by rfl)]
          refine wp_app_run (tmpO 52) (tmpO 54) rfl (vs := .slice a L.length c) (vx := .slice (some ⟨W3.heap.size, 0, none⟩) 1 1) rfl rfl hap2 ?_
          refine hK _ _ ?_
          clear hK K
          refine wpAny_take (i := 8) (v := ?_) rfl (by kernel_rfl) (by kernel_rfl) (by kernel_rfl) (fun _ _ _ h => h) (Or.inl ⟨by rfl, ?_⟩) ?_
          rotate_left
          · (intro w; go_simp; try with_reducible rfl)
          refine wpAny_take (i := 9) (v := ?_) rfl (by kernel_rfl) (by kernel_rfl) (by kernel_rfl) (fun _ _ _ h => h) (Or.inl ⟨by rfl, ?_⟩) ?_
          rotate_left
          · (intro w; go_simp; try with_reducible rfl)
          refine wpAny_ready (rs := [10]) (by kernel_rfl) (by simp) ?_
          refine AllReady.cons rfl (fun K hK => ?_) AllReady.nil
          go_simp
          refine hK _ _ ?_
          clear hK K
          refine wpAny_done (by kernel_rfl) ?_ _
          go_wp2
          go_ret2
          exact ⟨g, cap', mb, rfl, HZ.out, HG.out.1, HG.out.2, by first | exact HMb.out | exact .inl rfl | exact .inr HMb.out⟩
        · go_simp
          refine hK _ _ ?_
          clear hK K
          refine wpAny_ready (rs := [4]) (by kernel_rfl) (by simp) ?_
          refine AllReady.cons rfl (fun K hK => ?_) AllReady.nil
          go_simp
          refine hK _ _ ?_
          clear hK K
          refine wpAny_ready (rs := [7]) (by kernel_rfl) (by simp) ?_
          refine AllReady.cons rfl (fun K hK => ?_) AllReady.nil
          rw [if_pos (by rfl)]
          refine wp_app_run (tmpO 52) (tmpO 54) rfl (vs := .slice a L.length c) (vx := .slice (some ⟨W3.heap.size, 0, none⟩) 1 1) rfl rfl hap2 ?_
          refine hK _ _ ?_
          clear hK K
          refine wpAny_take (i := 8) (v := ?_) rfl (by kernel_rfl) (by kernel_rfl) (by kernel_rfl) (fun _ _ _ h => h) (Or.inl ⟨by rfl, ?_⟩) ?_
          rotate_left
          · (intro w; go_simp; try with_reducible rfl)
          refine wpAny_take (i := 9) (v := ?_) rfl (by kernel_rfl) (by kernel_rfl) (by kernel_rfl) (fun _ _ _ h => h) (Or.inl ⟨by rfl, ?_⟩) ?_
          rotate_left
          · (intro w; go_simp; try with_reducible rfl)
          refine wpAny_ready (rs := [10]) (by kernel_rfl) (by simp) ?_
          refine AllReady.cons rfl (fun K hK => ?_) AllReady.nil
          go_simp
          refine hK _ _ ?_
          clear hK K
          refine wpAny_done (by kernel_rfl) ?_ _
          go_wp2
          go_ret2
          exact ⟨g, cap', mb, rfl, HZ.out, HG.out.1, HG.out.2, by first | exact HMb.out | exact .inl rfl | exact .inr HMb.out⟩


  | none =>
    have hm1 : (w1.drewN nq).heap.size = w1.heap.size := rfl
    have hbl := HP1.out.lt b (.inl rfl)
    have eB : ((w1.drewN nq).alloc (.map #[] 0)).heap[b]? = w1.heap[b]? := Below.heap_alloc (w1.drewN nq) _ b hbl
    have m1 : ((w1.drewN nq).alloc (.map #[] 0)).cell? ⟨b, 1, none⟩ = some (.map none) := (World.cell?_of_block eB).trans c1
    have m2 : ((w1.drewN nq).alloc (.map #[] 0)).frozen? ⟨b, 1, none⟩ = false := (World.frozen?_of_block eB).trans (cf 1)
    go_wp2
    have HPz := hid ((show Pb (w1.drewN nq) b a c none L from HP1.out.keep (fun _ _ => rfl)).made)
    have HNz := hid (show NAt (((w1.drewN nq).alloc (.map #[] 0)).setCell ⟨b, 1, none⟩ (.map (some (w1.drewN nq).heap.size))) W.heap.size (xo, xa, xb, xk) from (NAt.alloc (W := w1.drewN nq) HN1.out _).off (fun e => by have := HLT.out b (.inl rfl); omega))
    have HFz := hid (show Fr W (((w1.drewN nq).alloc (.map #[] 0)).setCell ⟨b, 1, none⟩ (.map (some (w1.drewN nq).heap.size))) (Fb b a none) from ((Fr.of_below (bdrew HB1.out nq)).below2 (al _ _)).grown (setG _ _ _ _) (fun k e => by injection e with e; exact .inl (.inl e.symm)))
    have Hmb := hid (show (Fb b a none) (w1.drewN nq).heap.size ∨ W.heap.size ≤ (w1.drewN nq).heap.size from .inr (bdrew HB1.out nq).size)
    rw [hm1] at HPz HNz HFz Hmb
    clear HP1 HN1 HB1 c0 c1 cf q0 q1 q2 q3 qf eB m1 m2 hm1 hbl
    generalize ((w1.drewN nq).alloc (.map #[] 0)).setCell ⟨b, 1, none⟩ (.map (some w1.heap.size)) = Wz at *
    obtain ⟨mb, hmb⟩ : ∃ mb, w1.heap.size = mb := ⟨_, rfl⟩
    rw [hmb] at HPz Hmb ⊢
    clear hmb
    obtain ⟨c0, c1, cf⟩ := HPz.out.cells
    obtain ⟨q0, q1, q2, q3, qf⟩ := HNz.out.cells

    -- from here on: the world Wz, the map at mb
    obtain ⟨W3, hup, hD3, hT3⟩ := Mp.more (W := Wz.drew) (HPz.out.map.keep (fun _ _ => rfl)) HO.out.1 HO.out.2.1 HO.out.2.2
    have hmbN : mb ≠ W.heap.size := by
      intro e
      have h1 := HNz.out
      rcases HPz.out.map with ⟨e1, _⟩ | ⟨mb', e1, D, ⟨es, ck, h2, _⟩, _⟩
      · cases e1
      · injection e1 with e1
        unfold NAt at h1
        rw [← e1, e, h1] at h2
        cases h2
    have hbmb : mb ≠ b := fun e => HPz.out.n2 (by rw [e])
    have hb0 := HPz.out.lt b (.inl rfl)
    have e3 : W3.heap[b]? = Wz.heap[b]? := hT3.grown.block b hb0 (fun e => hbmb (by injection e with e; exact e.symm))
    have eN : W3.heap[W.heap.size]? = Wz.heap[W.heap.size]? := hT3.grown.block _ HNz.out.lt (fun e => hmbN (by injection e with e; exact e.symm))
    have hN3 : NAt W3 W.heap.size (xo, xa, xb, xk) := by unfold NAt; rw [eN]; exact HNz.out
    have hO3 : OwnN W3 0 a L.length c L := HPz.out.own.keep (fun k e => hT3.grown.block k (HPz.out.lt k (.inr (.inl e))) (fun e2 => HPz.out.n3 mb rfl (by rw [e, e2])))
    have hO4 : OwnN (W3.drew.alloc (.cells #[.int .i64 xo, .int .i64 xa, .int .i64 xb, .int .u32 xk] 56)) 0 a L.length c L := OwnN.below (W := W3.drew) (hO3.keep (fun _ _ => rfl)) (al _ _)
    obtain ⟨g, cap', W4, hap, hOw, hgr, hgo⟩ := run_app1 (ty := 22) (c := 1) hO4 (ly_one W3.drew (xo, xa, xb, xk)) (by have := HPz.out.len; omega) (Nat.zero_le _)
    have hGz : Wz.grownBy W3.drew (some mb) := ⟨hT3.grown.os, hT3.grown.tape, hT3.grown.output, hT3.grown.size, hT3.grown.block⟩
    have HZ := hid (HPz.out.more HO.out.1 HO.out.2.1 HO.out.2.2 hGz (hD3.keep (fun _ _ => rfl)) hOw hgr hgo)
    have HG := hid (show Fr W (W4.setCell ⟨b, 0, none⟩ (.slice (some ⟨g, 0, none⟩) (L.length + 1) cap')) (Fb b a none) ∧ (blk a = some g ∨ W.heap.size ≤ g) from by
      have hWz := HFz.out.size
      have hs3 := hT3.grown.size
      have hal : (W3.drew.alloc (.cells #[.int .i64 xo, .int .i64 xa, .int .i64 xb, .int .u32 xk] 56)).heap.size = W3.heap.size + 1 := by simp
      have hs3' : Wz.heap.size ≤ W3.heap.size := hs3
      refine ⟨(((HFz.out.grown hGz (fun k e => by injection e with e; rw [← e]; exact Hmb.out)).below2 (al _ _)).grown hgr (fun k e => .inl (.inr (.inl e)))).grown (setG _ _ _ _) (fun k e => by injection e with e; exact .inl (.inl e.symm)), ?_⟩
      rcases hgo with e | e
      · exact .inl e
      · right; omega)
    have HMb := hid (show none = some mb ∨ W.heap.size ≤ mb from by
      rcases Hmb.out with (e | e | e) | e
      · exact absurd e hbmb
      · exact absurd e (HPz.out.n3 mb rfl)
      · exact .inl e
      · exact .inr e)
    have hup2 : (Instr.mapUpdate 82 (.map (some mb)) (.agg #[.int .i64 xo, .int .i64 xa, .int .i64 xb, .int .u32 xk]) (.int .i64 (L.length : Int))).run Try.prog Wz.drew = .ok () W3 := hup
    have hb4 : W4.heap[b]? = Wz.heap[b]? := (hgr.block b (by have := hT3.grown.size; have h9 : Wz.heap.size ≤ W3.heap.size := this; simp; omega) (fun e => HPz.out.n1 e.symm)).trans ((Below.heap_alloc W3.drew _ b (by have := hT3.grown.size; have h9 : Wz.heap.size ≤ W3.heap.size := this; show b < W3.heap.size; omega)).trans e3)
    have s3c : W3.cell? ⟨b, 0, none⟩ = some (.slice a L.length c) := (World.cell?_of_block e3).trans c0
    have s3a : (W3.alloc (.cells #[.int .i64 xo, .int .i64 xa, .int .i64 xb, .int .u32 xk] 56)).cell? ⟨b, 0, none⟩ = some (.slice a L.length c) := (World.cell?_of_block (Below.heap_alloc W3 _ b (by have := hT3.grown.size; have h9 : Wz.heap.size ≤ W3.heap.size := this; omega))).trans s3c
    have s4c : W4.cell? ⟨b, 0, none⟩ = some (.slice a L.length c) := (World.cell?_of_block hb4).trans c0
    have s4f : W4.frozen? ⟨b, 0, none⟩ = false := (World.frozen?_of_block hb4).trans (cf 0)
    obtain ⟨u0, u1, u2, u3, uf⟩ := hN3.cells
    have hap2 : (Builtin.append_ #[22, 22] 22 #[.slice a L.length c, .slice (some ⟨W3.heap.size, 0, none⟩) 1 1]).run Try.prog (W3.drew.alloc (.cells #[.int .i64 xo, .int .i64 xa, .int .i64 xb, .int .u32 xk] 56)) = .ok (.slice (some ⟨g, 0, none⟩) (L.length + 1) cap') W4 := hap
    clear hap hup hO4 hO3 hOw hgr hgo hGz hD3 hT3 hb4 e3 eN HPz HNz HFz HO hN3 Hmb hb0
    go_region_with (fail)
    all_goals
      clear c0 c1 cf q0 q1 q2 q3 qf hup2
      go_wp2
      refine wp_region_any (by kernel_rfl) ?_
      change wpAny _ _ _ _ _ _ _ (World.drew _)
      refine wpAny_take (i := 0) (v := ?_) rfl (by kernel_rfl) (by kernel_rfl) (by kernel_rfl) (fun _ _ _ h => h) (Or.inl ⟨by rfl, ?_⟩) ?_
      rotate_left
      · (intro w; go_simp; try with_reducible rfl)
      refine wpAny_take (i := 1) (v := ?_) rfl (by kernel_rfl) (by kernel_rfl) (by kernel_rfl) (fun _ _ _ h => h) (Or.inl ⟨by rfl, ?_⟩) ?_
      rotate_left
      · (intro w; go_simp; try with_reducible rfl)
      refine wpAny_take (i := 2) (v := ?_) rfl (by kernel_rfl) (by kernel_rfl) (by kernel_rfl) (fun _ _ _ h => h) (Or.inl ⟨by rfl, ?_⟩) ?_
      rotate_left
      · (intro w; go_simp; try with_reducible rfl)
      refine wpAny_take (i := 3) (v := ?_) rfl (by kernel_rfl) (by kernel_rfl) (by kernel_rfl) (fun _ _ _ h => h) (Or.inl ⟨by rfl, ?_⟩) ?_
      rotate_left
      · (intro w; go_simp; try with_reducible rfl)
      refine wpAny_ready (rs := [4, 5]) (by kernel_rfl) (by simp) ?_
      refine AllReady.cons rfl (fun K hK => ?_) (AllReady.cons rfl (fun K hK => ?_) AllReady.nil)
      · go_simp
        refine hK _ _ ?_
        clear hK K
        refine wpAny_ready (rs := [5]) (by kernel_rfl) (by simp) ?_
        refine AllReady.cons rfl (fun K hK => ?_) AllReady.nil
        go_simp
        refine hK _ _ ?_
        clear hK K
        refine wpAny_ready (rs := [6]) (by kernel_rfl) (by simp) ?_
        refine AllReady.cons rfl (fun K hK => ?_) AllReady.nil
        go_simp
        refine hK _ _ ?_
        clear hK K
        refine wpAny_ready (rs := [7]) (by kernel_rfl) (by simp) ?_
        refine AllReady.cons rfl (fun K hK => ?_) AllReady.nil
        rw [if_pos (by rfl)]
        refine wp_app_run (tmpO 52) (tmpO 54) rfl (vs := .slice a L.length c) (vx := .slice (some ⟨W3.heap.size, 0, none⟩) 1 1) rfl rfl hap2 ?_
        refine hK _ _ ?_
        clear hK K
        refine wpAny_take (i := 8) (v := ?_) rfl (by kernel_rfl) (by kernel_rfl) (by kernel_rfl) (fun _ _ _ h => h) (Or.inl ⟨by rfl, ?_⟩) ?_
        rotate_left
        · (intro w; go_simp; try with_reducible rfl)
        refine wpAny_take (i := 9) (v := ?_) rfl (by kernel_rfl) (by kernel_rfl) (by kernel_rfl) (fun _ _ _ h => h) (Or.inl ⟨by rfl, ?_⟩) ?_
        rotate_left
        · (intro w; go_simp; try with_reducible rfl)
        refine wpAny_ready (rs := [10]) (by kernel_rfl) (by simp) ?_
        refine AllReady.cons rfl (fun K hK => ?_) AllReady.nil
        go_simp
        refine hK _ _ ?_
        clear hK K
        refine wpAny_done (by kernel_rfl) ?_ _
        go_wp2
        go_ret2
        exact ⟨g, cap', mb, rfl, HZ.out, HG.out.1, HG.out.2, by first | exact HMb.out | exact .inl rfl | exact .inr HMb.out⟩
      · go_simp
        refine hK _ _ ?_
        clear hK K
        refine wpAny_ready (rs := [4, 6]) (by kernel_rfl) (by simp) ?_
        refine AllReady.cons rfl (fun K hK => ?_) (AllReady.cons rfl (fun K hK => ?_) AllReady.nil)
        · go_simp
          refine hK _ _ ?_
          clear hK K
          refine wpAny_ready (rs := [6]) (by kernel_rfl) (by simp) ?_
          refine AllReady.cons rfl (fun K hK => ?_) AllReady.nil
          go_simp
          refine hK _ _ ?_
          clear hK K
          refine wpAny_ready (rs := [7]) (by kernel_rfl) (by simp) ?_
          refine AllReady.cons rfl (fun K hK => ?_) AllReady.nil
          rw [if_pos (by rfl)]
          refine wp_app_run (tmpO 52) (tmpO 54) rfl (vs := .slice a L.length c) (vx := .slice (some ⟨W3.heap.size, 0, none⟩) 1 1) rfl rfl hap2 ?_
          refine hK _ _ ?_
          clear hK K
          refine wpAny_take (i := 8) (v := ?_) rfl (by kernel_rfl) (by kernel_rfl) (by kernel_rfl) (fun _ _ _ h => h) (Or.inl ⟨by rfl, ?_⟩) ?_
          rotate_left
          · (intro w; go_simp; try with_reducible rfl)
          refine wpAny_take (i := 9) (v := ?_) rfl (by kernel_rfl) (by kernel_rfl) (by kernel_rfl) (fun _ _ _ h => h) (Or.inl ⟨by rfl, ?_⟩) ?_
          rotate_left
          · (intro w; go_simp; try with_reducible rfl)
          refine wpAny_ready (rs := [10]) (by kernel_rfl) (by simp) ?_
          refine AllReady.cons rfl (fun K hK => ?_) AllReady.nil
          go_simp
          refine hK _ _ ?_
          clear hK K
          refine wpAny_done (by kernel_rfl) ?_ _
          go_wp2
          go_ret2
          exact ⟨g, cap', mb, rfl, HZ.out, HG.out.1, HG.out.2, by first | exact HMb.out | exact .inl rfl | exact .inr HMb.out⟩
        · go_simp
          refine hK _ _ ?_
          clear hK K
          refine wpAny_ready (rs := [4]) (by kernel_rfl) (by simp) ?_
          refine AllReady.cons rfl (fun K hK => ?_) AllReady.nil
          go_simp
          refine hK _ _ ?_
          clear hK K
          refine wpAny_ready (rs := [7]) (by kernel_rfl) (by simp) ?_
          refine AllReady.cons rfl (fun K hK => ?_) AllReady.nil
          rw [if_pos (by rfl)]
          refine wp_app_run (tmpO 52) (tmpO 54) rfl (vs := .slice a L.length c) (vx := .slice (some ⟨W3.heap.size, 0, none⟩) 1 1) rfl rfl hap2 ?_
          refine hK _ _ ?_
          clear hK K
          refine wpAny_take (i := 8) (v := ?_) rfl (by kernel_rfl) (by kernel_rfl) (by kernel_rfl) (fun _ _ _ h => h) (Or.inl ⟨by rfl, ?_⟩) ?_
          rotate_left
          · (intro w; go_simp; try with_reducible rfl)
          refine wpAny_take (i := 9) (v := ?_) rfl (by kernel_rfl) (by kernel_rfl) (by kernel_rfl) (fun _ _ _ h => h) (Or.inl ⟨by rfl, ?_⟩) ?_
          rotate_left
          · (intro w; go_simp; try with_reducible rfl)
          refine wpAny_ready (rs := [10]) (by kernel_rfl) (by simp) ?_
          refine AllReady.cons rfl (fun K hK => ?_) AllReady.nil
          go_simp
          refine hK _ _ ?_
          clear hK K
          refine wpAny_done (by kernel_rfl) ?_ _
          go_wp2
          go_ret2
          exact ⟨g, cap', mb, rfl, HZ.out, HG.out.1, HG.out.2, by first | exact HMb.out | exact .inl rfl | exact .inr HMb.out⟩


end Go.Proofs.Ytmjeoknndnbglaa.TB
