/-
  The program's pool of layer 11: Put of what may stand, walked.
-/
import Derived.Test.YtkeigicobcjleabTC1
import Derived.WalkSpells
import Derived.Test.YtkeigicobcjleabT1
namespace Go.Proofs.Ytkeigicobcjleab.TB
open Go.ChangeShapes Go.WideShapes Go.ChangeAt Go.RowKit Go.Maps
open Go.Sort hiding Below
set_option linter.unusedVariables false
set_option maxRecDepth 100000

theorem eqNilM (w : World) (r : Option Nat) : (binOp .eql 73 (.map r) (.map none)).run Try.prog w = .ok (.bool r.isNone) w := run_eql_map_nil w _ _ _ r Try.underlying73
set_option maxHeartbeats 3200000 in
theorem put_old (W : World) (b : Nat) (a : Option Addr) (c : Nat) (mo : Option Nat) (L : List TM.N) (xo xa xb xk : Int) (ok : TM.okN (xo, xa, xb, xk)) (h : Pb W b a c mo L) (hm : TM.may (xo, xa, xb, xk) L.length = true) (i : Nat) (hf : TM.fnd L (xo, xa, xb, xk) = some i) :
    Calls Try.prog 24 #[.pointer (some ⟨b, 0, none⟩), .agg #[.int .i64 xo, .int .i64 xa, .int .i64 xb, .int .u32 xk]] W fun e w' => e = .returned (.tuple #[.int .i64 (i : Int), .int .i64 0]) ∧ Below W.heap.size W w' := by
  have HB := hid (al W (.cells #[.int .i64 xo, .int .i64 xa, .int .i64 xb, .int .u32 xk] 28))
  have HN := hid (NAt.new W xo xa xb xk)
  have HP := hid (h.below HB.out)
  obtain ⟨c0, c1, cf⟩ := HP.out.cells
  have HC := hid (fun W => cstands xo xa xb xk ok L.length W true hm)
  have HL := hid (fun W (hM : Mp W mo L) => hM.look ok)
  have HF := hid hf
  clear h hm hf ok
  go_enter Try.func24, Try.ntmps24
  go_wp2_with fail
  refine (HC.out _).mono ?_
  rintro e w1 ⟨rfl, hb⟩
  have HP1 := hid (HP.out.below hb)
  have HB1 := stp HB hb
  have HN1 := hid (HN.out.below hb)
  clear hb HP HB HN HC c0 c1 cf
  obtain ⟨c0, c1, cf⟩ := HP1.out.cells
  obtain ⟨q0, q1, q2, q3, qf⟩ := HN1.out.cells
  have hlk : ∀ d, ∃ cc : Int, (Instr.lookup 73 (.map mo) (.agg #[.int .i64 xo, .int .i64 xa, .int .i64 xb, .int .u32 xk]) true).run Try.prog (w1.drewN d) = .ok (.tuple #[.int .i64 cc, .bool (TM.fnd L (xo, xa, xb, xk)).isSome]) (w1.drewN d) ∧ ∀ i, TM.fnd L (xo, xa, xb, xk) = some i → cc = (i : Int) := fun d => HL.out (w1.drewN d) (HP1.out.map.keep (fun _ _ => rfl))
  have hlk2 : ∀ d, (Instr.lookup 73 (.map mo) (.agg #[.int .i64 xo, .int .i64 xa, .int .i64 xb, .int .u32 xk]) true).run Try.prog (w1.drewN d) = .ok (.tuple #[.int .i64 (i : Int), .bool true]) (w1.drewN d) := fun d => by
    obtain ⟨cc, h1, h2⟩ := hlk d
    rw [h1, h2 i HF.out, HF.out]; rfl
  clear hlk HL HF HP1 HN1
  obtain ⟨n, hn⟩ : ∃ n, L.length = n := ⟨_, rfl⟩
  rw [hn] at c0 ⊢
  clear hn
  go_wp2
  go_quiet (fail)
  go_wp2
  go_ret2
  exact ⟨rfl, bdrew HB1.out nq⟩
end Go.Proofs.Ytkeigicobcjleab.TB
namespace Go.Proofs.Ytkeigicobcjleab.TB
open Go.ChangeShapes Go.WideShapes Go.ChangeAt Go.RowKit Go.Maps
open Go.Sort hiding Below
set_option linter.unusedVariables false
set_option maxRecDepth 100000

theorem Mp.look0 {W : World} {mo : Option Nat} {L : List TM.N} (h : Mp W mo L) {x : TM.N} (ok : TM.okN x) (hf : TM.fnd L x = none) : (Instr.lookup 73 (.map mo) (nv x) true).run Try.prog W = .ok (.tuple #[.int .i64 0, .bool false]) W := by
  rcases h with ⟨rfl, rfl⟩ | ⟨mb, rfl, D, hm, hD⟩
  · exact Maps.look_nil (w := W) true lawN Try.underlying73 (zeroi W) (keyN ok)
  · obtain ⟨v, ps, hrun, hv⟩ := hm.look_ok lawN Try.underlying73 (zeroi W) (plainElem_int Try.underlying3 (by decide)) (keyN ok)
    obtain ⟨c, rfl, hc, hwc⟩ := plainElem_int_inv Try.underlying3 hv
    have hh := (hD x ok).2 hf
    have hc := congrArg Prod.fst hc
    rw [Maps.atKey_of_not_has hh] at hc
    have hc2 : DataW.lit (H := Unit) (.int .i64 0) = .lit (.int .i64 c) := hc
    injection hc2 with hc2
    injection hc2 with _ hc2
    rw [hrun, hh, ← hc2]

abbrev tmpO (t : Nat) : Operand := .tmp t
theorem wp_app_run {w w' : World} {o : Oper} {a : Act} {K : Act → World → Prop} {Q : Exit → Act → World → Prop} (s x : Operand) {vs vx v : Value} (ho : o.op = .call { callee := .builtin .append, args := #[s, x], argTypes := #[29, 29] })
    (hs : a.eval s = vs) (hx : a.eval x = vx) (hr : (Builtin.append_ #[29, 29] o.type #[vs, vx]).run Try.prog w = .ok v w') (h : K (a.put o.dst v) w') : o.wp Try.prog a w K Q := by
  unfold Oper.wp execOp
  simp only [ho, resolve, invoke, builtin, Sem.run_bind, Sem.run_pure, Result.andThen_ok, List.map_toArray, List.map_cons, List.map_nil, hs, hx, hr]
  exact h
set_option maxHeartbeats 6400000 in
theorem put_new (W : World) (b : Nat) (a : Option Addr) (c : Nat) (mo : Option Nat) (L : List TM.N) (xo xa xb xk : Int) (ok : TM.okN (xo, xa, xb, xk)) (h : Pb W b a c mo L) (hm : TM.may (xo, xa, xb, xk) L.length = true) (hlen : L.length < 65536) (hf : TM.fnd L (xo, xa, xb, xk) = none) :
    Calls Try.prog 24 #[.pointer (some ⟨b, 0, none⟩), .agg #[.int .i64 xo, .int .i64 xa, .int .i64 xb, .int .u32 xk]] W fun e w' => ∃ g cap' mb, e = .returned (.tuple #[.int .i64 (L.length : Int), .int .i64 0]) ∧ Pb w' b (some ⟨g, 0, none⟩) cap' (some mb) (L ++ [(xo, xa, xb, xk)]) ∧ Fr W w' (Fb b a mo) ∧ (blk a = some g ∨ W.heap.size ≤ g) ∧ (mo = some mb ∨ W.heap.size ≤ mb) := by
  have HB := hid (al W (.cells #[.int .i64 xo, .int .i64 xa, .int .i64 xb, .int .u32 xk] 28))
  have HN := hid (NAt.new W xo xa xb xk)
  have HP := hid (h.below HB.out)
  obtain ⟨c0, c1, cf⟩ := HP.out.cells
  have HC := hid (fun W => cstands xo xa xb xk ok L.length W true hm)
  have HL := hid (fun W (hM : Mp W mo L) => hM.look0 ok hf)
  have HO := hid (And.intro ok (And.intro hf hlen))
  have hn2 : L.length < 65536 := hlen
  have HLT := hid (fun k => h.lt k)
  clear h hm hf ok hlen
  have hqm := eqNilM
  have hmm := @run_makeMap Try.prog
  go_enter Try.func24, Try.ntmps24
  go_wp2_with fail
  refine (HC.out _).mono ?_
  rintro e w1 ⟨rfl, hb⟩
  have HP1 := hid (HP.out.below hb)
  have HB1 := stp HB hb
  have HN1 := hid (HN.out.below hb)
  clear hb HP HB HN HC c0 c1 cf
  obtain ⟨c0, c1, cf⟩ := HP1.out.cells
  obtain ⟨q0, q1, q2, q3, qf⟩ := HN1.out.cells
  have hlk : ∀ d, (Instr.lookup 73 (.map mo) (.agg #[.int .i64 xo, .int .i64 xa, .int .i64 xb, .int .u32 xk]) true).run Try.prog (w1.drewN d) = .ok (.tuple #[.int .i64 0, .bool false]) (w1.drewN d) := fun d => HL.out (w1.drewN d) (HP1.out.map.keep (fun _ _ => rfl))
  have dn : decide ((65536 : Int) ≤ (L.length : Int)) = false := decide_eq_false (by omega)
  go_wp2
  go_quiet (fail)
  clear hlk HL
  cases mo with
  | some mb =>
    go_wp2
    have HPz := hid (show Pb (w1.drewN nq) b a c (some mb) L from HP1.out.keep (fun _ _ => rfl))
    have HNz := hid (show NAt (w1.drewN nq) W.heap.size (xo, xa, xb, xk) from HN1.out)
    have HFz := hid (show Fr W (w1.drewN nq) (Fb b a (some mb)) from Fr.of_below (bdrew HB1.out nq))
    clear HP1 HN1 HB1 c0 c1 cf q0 q1 q2 q3 qf
    have Hmb := hid (show (Fb b a (some mb)) mb ∨ W.heap.size ≤ mb from .inl (.inr (.inr rfl)))
    generalize w1.drewN nq = Wz at *
    obtain ⟨c0, c1, cf⟩ := HPz.out.cells
    obtain ⟨q0, q1, q2, q3, qf⟩ := HNz.out.cells

    -- from here on: the world Wz, the map at mb
    obtain ⟨W3, hup, hD3, hT3⟩ := Mp.more (W := Wz.drew) (HPz.out.map.keep (fun _ _ => rfl)) HO.out.1 HO.out.2.1 HO.out.2.2
    have hmbN : mb ≠ W.heap.size := by
      intro e
      have h1 := HNz.out
      rcases HPz.out.map with ⟨e1, _⟩ | ⟨mb', e1, D, ⟨es, ck, h2, _⟩, _⟩
      · cases e1
      · injection e1 with e1
        unfold NAt at h1
        rw [← e1, e, h1] at h2
        cases h2
    have hbmb : mb ≠ b := fun e => HPz.out.n2 (by rw [e])
    have hb0 := HPz.out.lt b (.inl rfl)
    have e3 : W3.heap[b]? = Wz.heap[b]? := hT3.grown.block b hb0 (fun e => hbmb (by injection e with e; exact e.symm))
    have eN : W3.heap[W.heap.size]? = Wz.heap[W.heap.size]? := hT3.grown.block _ HNz.out.lt (fun e => hmbN (by injection e with e; exact e.symm))
    have hN3 : NAt W3 W.heap.size (xo, xa, xb, xk) := by unfold NAt; rw [eN]; exact HNz.out
    have hO3 : OwnN W3 0 a L.length c L := HPz.out.own.keep (fun k e => hT3.grown.block k (HPz.out.lt k (.inr (.inl e))) (fun e2 => HPz.out.n3 mb rfl (by rw [e, e2])))
    have hO4 : OwnN (W3.drew.alloc (.cells #[.int .i64 xo, .int .i64 xa, .int .i64 xb, .int .u32 xk] 28)) 0 a L.length c L := OwnN.below (W := W3.drew) (hO3.keep (fun _ _ => rfl)) (al _ _)
    obtain ⟨g, cap', W4, hap, hOw, hgr, hgo⟩ := run_app1 (ty := 29) (c := 1) hO4 (ly_one W3.drew (xo, xa, xb, xk)) (by have := HPz.out.len; omega) (Nat.zero_le _)
    have hGz : Wz.grownBy W3.drew (some mb) := ⟨hT3.grown.os, hT3.grown.tape, hT3.grown.output, hT3.grown.size, hT3.grown.block⟩
    have HZ := hid (HPz.out.more HO.out.1 HO.out.2.1 HO.out.2.2 hGz (hD3.keep (fun _ _ => rfl)) hOw hgr hgo)
    have HG := hid (show Fr W (W4.setCell ⟨b, 0, none⟩ (.slice (some ⟨g, 0, none⟩) (L.length + 1) cap')) (Fb b a (some mb)) ∧ (blk a = some g ∨ W.heap.size ≤ g) from by
      have hWz := HFz.out.size
      have hs3 := hT3.grown.size
      have hal : (W3.drew.alloc (.cells #[.int .i64 xo, .int .i64 xa, .int .i64 xb, .int .u32 xk] 28)).heap.size = W3.heap.size + 1 := by simp
      have hs3' : Wz.heap.size ≤ W3.heap.size := hs3
      refine ⟨(((HFz.out.grown hGz (fun k e => by injection e with e; rw [← e]; exact Hmb.out)).below2 (al _ _)).grown hgr (fun k e => .inl (.inr (.inl e)))).grown (setG _ _ _ _) (fun k e => by injection e with e; exact .inl (.inl e.symm)), ?_⟩
      rcases hgo with e | e
      · exact .inl e
      · right; omega)
    have HMb := hid (show (some mb) = some mb ∨ W.heap.size ≤ mb from by
      rcases Hmb.out with (e | e | e) | e
      · exact absurd e hbmb
      · exact absurd e (HPz.out.n3 mb rfl)
      · exact .inl e
      · exact .inr e)
    have hup2 : (Instr.mapUpdate 73 (.map (some mb)) (.agg #[.int .i64 xo, .int .i64 xa, .int .i64 xb, .int .u32 xk]) (.int .i64 (L.length : Int))).run Try.prog Wz.drew = .ok () W3 := hup
    have hb4 : W4.heap[b]? = Wz.heap[b]? := (hgr.block b (by have := hT3.grown.size; have h9 : Wz.heap.size ≤ W3.heap.size := this; simp; omega) (fun e => HPz.out.n1 e.symm)).trans ((Below.heap_alloc W3.drew _ b (by have := hT3.grown.size; have h9 : Wz.heap.size ≤ W3.heap.size := this; show b < W3.heap.size; omega)).trans e3)
    have s3c : W3.cell? ⟨b, 0, none⟩ = some (.slice a L.length c) := (World.cell?_of_block e3).trans c0
    have s3a : (W3.alloc (.cells #[.int .i64 xo, .int .i64 xa, .int .i64 xb, .int .u32 xk] 28)).cell? ⟨b, 0, none⟩ = some (.slice a L.length c) := (World.cell?_of_block (Below.heap_alloc W3 _ b (by have := hT3.grown.size; have h9 : Wz.heap.size ≤ W3.heap.size := this; omega))).trans s3c
    have s4c : W4.cell? ⟨b, 0, none⟩ = some (.slice a L.length c) := (World.cell?_of_block hb4).trans c0
    have s4f : W4.frozen? ⟨b, 0, none⟩ = false := (World.frozen?_of_block hb4).trans (cf 0)
    obtain ⟨u0, u1, u2, u3, uf⟩ := hN3.cells
    have hap2 : (Builtin.append_ #[29, 29] 29 #[.slice a L.length c, .slice (some ⟨W3.heap.size, 0, none⟩) 1 1]).run Try.prog (W3.drew.alloc (.cells #[.int .i64 xo, .int .i64 xa, .int .i64 xb, .int .u32 xk] 28)) = .ok (.slice (some ⟨g, 0, none⟩) (L.length + 1) cap') W4 := hap
    clear hap hup hO4 hO3 hOw hgr hgo hGz hD3 hT3 hb4 e3 eN HPz HNz HFz HO hN3 Hmb hb0
    go_region_with (fail)
    all_goals
      clear c0 c1 cf q0 q1 q2 q3 qf hup2
      go_wp2
      refine wp_region_any (by kernel_rfl) ?_
      change wpAny _ _ _ _ _ _ _ (World.drew _)
      refine wpAny_take (i := 0) (v := ?_) rfl (by kernel_rfl) (by kernel_rfl) (by kernel_rfl) (fun _ _ _ h => h) (Or.inl ⟨by rfl, ?_⟩) ?_
      rotate_left
      · (intro w; go_simp; try with_reducible rfl)
      refine wpAny_take (i := 1) (v := ?_) rfl (by kernel_rfl) (by kernel_rfl) (by kernel_rfl) (fun _ _ _ h => h) (Or.inl ⟨by rfl, ?_⟩) ?_
      rotate_left
      · (intro w; go_simp; try with_reducible rfl)
      refine wpAny_take (i := 2) (v := ?_) rfl (by kernel_rfl) (by kernel_rfl) (by kernel_rfl) (fun _ _ _ h => h) (Or.inl ⟨by rfl, ?_⟩) ?_
      rotate_left
      · (intro w; go_simp; try with_reducible rfl)
      refine wpAny_take (i := 3) (v := ?_) rfl (by kernel_rfl) (by kernel_rfl) (by kernel_rfl) (fun _ _ _ h => h) (Or.inl ⟨by rfl, ?_⟩) ?_
      rotate_left
      · (intro w; go_simp; try with_reducible rfl)
      refine wpAny_ready (rs := [4, 5]) (by kernel_rfl) (by simp) ?_
      refine AllReady.cons rfl (fun K hK => ?_) (AllReady.cons rfl (fun K hK => ?_) AllReady.nil)
      · go_simp
        refine hK _ _ ?_
        clear hK K
        refine wpAny_ready (rs := [5]) (by kernel_rfl) (by simp) ?_
        refine AllReady.cons rfl (fun K hK => ?_) AllReady.nil
        go_simp
        refine hK _ _ ?_
        clear hK K
        refine wpAny_ready (rs := [6]) (by kernel_rfl) (by simp) ?_
        refine AllReady.cons rfl (fun K hK => ?_) AllReady.nil
        go_simp
        refine hK _ _ ?_
        clear hK K
        refine wpAny_ready (rs := [7]) (by kernel_rfl) (by simp) ?_
        refine AllReady.cons rfl (fun K hK => ?_) AllReady.nil
        rw [if_pos (by rfl)]
        refine wp_app_run (tmpO 52) (tmpO 54) rfl (vs := .slice a L.length c) (vx := .slice (some ⟨W3.heap.size, 0, none⟩) 1 1) rfl rfl hap2 ?_
        refine hK _ _ ?_
        clear hK K
        refine wpAny_take (i := 8) (v := ?_) rfl (by kernel_rfl) (by kernel_rfl) (by kernel_rfl) (fun _ _ _ h => h) (Or.inl ⟨by rfl, ?_⟩) ?_
        rotate_left
        · (intro w; go_simp; try with_reducible rfl)
        refine wpAny_take (i := 9) (v := ?_) rfl (by kernel_rfl) (by kernel_rfl) (by kernel_rfl) (fun _ _ _ h => h) (Or.inl ⟨by rfl, ?_⟩) ?_
        rotate_left
        · (intro w; go_simp; try with_reducible rfl)
        refine wpAny_ready (rs := [10]) (by kernel_rfl) (by simp) ?_
        refine AllReady.cons rfl (fun K hK => ?_) AllReady.nil
        go_simp
        refine hK _ _ ?_
        clear hK K
        refine wpAny_done (by kernel_rfl) ?_ _
        go_wp2
        go_ret2
        exact ⟨g, cap', mb, rfl, HZ.out, HG.out.1, HG.out.2, by first | exact HMb.out | exact .inl rfl | exact .inr HMb.out⟩
      · go_simp
        refine hK _ _ ?_
        clear hK K
        refine wpAny_ready (rs := [4, 6]) (by kernel_rfl) (by simp) ?_
        refine AllReady.cons rfl (fun K hK => ?_) (AllReady.cons rfl (fun K hK => ?_) AllReady.nil)
        · go_simp
          refine hK _ _ ?_
          clear hK K
          refine wpAny_ready (rs := [6]) (by kernel_rfl) (by simp) ?_
          refine AllReady.cons rfl (fun K hK => ?_) AllReady.nil
          go_simp
          refine hK _ _ ?_
          clear hK K
          refine wpAny_ready (rs := [7]) (by kernel_rfl) (by simp) ?_
          refine AllReady.cons rfl (fun K hK => ?_) AllReady.nil
          rw [if_pos (by rfl)]
          refine wp_app_run (tmpO 52) (tmpO 54) rfl (vs := .slice a L.length c) (vx := .slice (some ⟨W3.heap.size, 0, none⟩) 1 1) rfl rfl hap2 ?_
          refine hK _ _ ?_
          clear hK K
          refine wpAny_take (i := 8) (v := ?_) rfl (by kernel_rfl) (by kernel_rfl) (by kernel_rfl) (fun _ _ _ h => h) (Or.inl ⟨by rfl, ?_⟩) ?_
          rotate_left
          · (intro w; go_simp; try with_reducible rfl)
          refine wpAny_take (i := 9) (v := ?_) rfl (by kernel_rfl) (by kernel_rfl) (by kernel_rfl) (fun _ _ _ h => h) (Or.inl ⟨by rfl, ?_⟩) ?_
          rotate_left
          · (intro w; go_simp; try with_reducible rfl)
          refine wpAny_ready (rs := [10]) (by kernel_rfl) (by simp) ?_
          refine AllReady.cons rfl (fun K hK => ?_) AllReady.nil
          go_simp
          refine hK _ _ ?_
          clear hK K
          refine wpAny_done (by kernel_rfl) ?_ _
          go_wp2
          go_ret2
          exact ⟨g, cap', mb, rfl, HZ.out, HG.out.1, HG.out.2, by first | exact HMb.out | exact .inl rfl | exact .inr HMb.out⟩
        · go_simp
          refine hK _ _ ?_
          clear hK K
          refine wpAny_ready (rs := [4]) (by kernel_rfl) (by simp) ?_
          refine AllReady.cons rfl (fun K hK => ?_) AllReady.nil
          go_simp
          refine hK _ _ ?_
          clear hK K
          refine wpAny_ready (rs := [7]) (by kernel_rfl) (by simp) ?_
          refine AllReady.cons rfl (fun K hK => ?_) AllReady.nil
          rw [if_pos (by rfl)]
          refine wp_app_run (tmpO 52) (tmpO 54) rfl (vs := .slice a L.length c) (vx := .slice (some ⟨W3.heap.size, 0, none⟩) 1 1) rfl rfl hap2 ?_
          refine hK _ _ ?_
          clear hK K
          refine wpAny_take (i := 8) (v := ?_) rfl (by kernel_rfl) (by kernel_rfl) (by kernel_rfl) (fun _ _ _ h => h) (Or.inl ⟨by rfl, ?_⟩) ?_
          rotate_left
          · (intro w; go_simp; try with_reducible rfl)
          refine wpAny_take (i := 9) (v := ?_) rfl (by kernel_rfl) (by kernel_rfl) (by kernel_rfl) (fun _ _ _ h => h) (Or.inl ⟨by rfl, ?_⟩) ?_
          rotate_left
          · (intro w; go_simp; try with_reducible rfl)
          refine wpAny_ready (rs := [10]) (by kernel_rfl) (by simp) ?_
          refine AllReady.cons rfl (fun K hK => ?_) AllReady.nil
          go_simp
          refine hK _ _ ?_
          clear hK K
          refine wpAny_done (by kernel_rfl) ?_ _
          go_wp2
          go_ret2
          exact ⟨g, cap', mb, rfl, HZ.out, HG.out.1, HG.out.2, by first | exact HMb.out | exact .inl rfl | exact .inr HMb.out⟩


  | none =>
    have hm1 : (w1.drewN nq).heap.size = w1.heap.size := rfl
    have hbl := HP1.out.lt b (.inl rfl)
    have eB : ((w1.drewN nq).alloc (.map #[] 0)).heap[b]? = w1.heap[b]? := Below.heap_alloc (w1.drewN nq) _ b hbl
    have m1 : ((w1.drewN nq).alloc (.map #[] 0)).cell? ⟨b, 1, none⟩ = some (.map none) := (World.cell?_of_block eB).trans c1
    have m2 : ((w1.drewN nq).alloc (.map #[] 0)).frozen? ⟨b, 1, none⟩ = false := (World.frozen?_of_block eB).trans (cf 1)
    go_wp2
    have HPz := hid ((show Pb (w1.drewN nq) b a c none L from HP1.out.keep (fun _ _ => rfl)).made)
    have HNz := hid (show NAt (((w1.drewN nq).alloc (.map #[] 0)).setCell ⟨b, 1, none⟩ (.map (some (w1.drewN nq).heap.size))) W.heap.size (xo, xa, xb, xk) from (NAt.alloc (W := w1.drewN nq) HN1.out _).off (fun e => by have := HLT.out b (.inl rfl); omega))
    have HFz := hid (show Fr W (((w1.drewN nq).alloc (.map #[] 0)).setCell ⟨b, 1, none⟩ (.map (some (w1.drewN nq).heap.size))) (Fb b a none) from ((Fr.of_below (bdrew HB1.out nq)).below2 (al _ _)).grown (setG _ _ _ _) (fun k e => by injection e with e; exact .inl (.inl e.symm)))
    have Hmb := hid (show (Fb b a none) (w1.drewN nq).heap.size ∨ W.heap.size ≤ (w1.drewN nq).heap.size from .inr (bdrew HB1.out nq).size)
    rw [hm1] at HPz HNz HFz Hmb
    clear HP1 HN1 HB1 c0 c1 cf q0 q1 q2 q3 qf eB m1 m2 hm1 hbl
    generalize ((w1.drewN nq).alloc (.map #[] 0)).setCell ⟨b, 1, none⟩ (.map (some w1.heap.size)) = Wz at *
    obtain ⟨mb, hmb⟩ : ∃ mb, w1.heap.size = mb := ⟨_, rfl⟩
    rw [hmb] at HPz Hmb ⊢
    clear hmb
    obtain ⟨c0, c1, cf⟩ := HPz.out.cells
    obtain ⟨q0, q1, q2, q3, qf⟩ := HNz.out.cells

    -- from here on: the world Wz, the map at mb
    obtain ⟨W3, hup, hD3, hT3⟩ := Mp.more (W := Wz.drew) (HPz.out.map.keep (fun _ _ => rfl)) HO.out.1 HO.out.2.1 HO.out.2.2
    have hmbN : mb ≠ W.heap.size := by
      intro e
      have h1 := HNz.out
      rcases HPz.out.map with ⟨e1, _⟩ | ⟨mb', e1, D, ⟨es, ck, h2, _⟩, _⟩
      · cases e1
      · injection e1 with e1
        unfold NAt at h1
        rw [← e1, e, h1] at h2
        cases h2
    have hbmb : mb ≠ b := fun e => HPz.out.n2 (by rw [e])
    have hb0 := HPz.out.lt b (.inl rfl)
    have e3 : W3.heap[b]? = Wz.heap[b]? := hT3.grown.block b hb0 (fun e => hbmb (by injection e with e; exact e.symm))
    have eN : W3.heap[W.heap.size]? = Wz.heap[W.heap.size]? := hT3.grown.block _ HNz.out.lt (fun e => hmbN (by injection e with e; exact e.symm))
    have hN3 : NAt W3 W.heap.size (xo, xa, xb, xk) := by unfold NAt; rw [eN]; exact HNz.out
    have hO3 : OwnN W3 0 a L.length c L := HPz.out.own.keep (fun k e => hT3.grown.block k (HPz.out.lt k (.inr (.inl e))) (fun e2 => HPz.out.n3 mb rfl (by rw [e, e2])))
    have hO4 : OwnN (W3.drew.alloc (.cells #[.int .i64 xo, .int .i64 xa, .int .i64 xb, .int .u32 xk] 28)) 0 a L.length c L := OwnN.below (W := W3.drew) (hO3.keep (fun _ _ => rfl)) (al _ _)
    obtain ⟨g, cap', W4, hap, hOw, hgr, hgo⟩ := run_app1 (ty := 29) (c := 1) hO4 (ly_one W3.drew (xo, xa, xb, xk)) (by have := HPz.out.len; omega) (Nat.zero_le _)
    have hGz : Wz.grownBy W3.drew (some mb) := ⟨hT3.grown.os, hT3.grown.tape, hT3.grown.output, hT3.grown.size, hT3.grown.block⟩
    have HZ := hid (HPz.out.more HO.out.1 HO.out.2.1 HO.out.2.2 hGz (hD3.keep (fun _ _ => rfl)) hOw hgr hgo)
    have HG := hid (show Fr W (W4.setCell ⟨b, 0, none⟩ (.slice (some ⟨g, 0, none⟩) (L.length + 1) cap')) (Fb b a none) ∧ (blk a = some g ∨ W.heap.size ≤ g) from by
      have hWz := HFz.out.size
      have hs3 := hT3.grown.size
      have hal : (W3.drew.alloc (.cells #[.int .i64 xo, .int .i64 xa, .int .i64 xb, .int .u32 xk] 28)).heap.size = W3.heap.size + 1 := by simp
      have hs3' : Wz.heap.size ≤ W3.heap.size := hs3
      refine ⟨(((HFz.out.grown hGz (fun k e => by injection e with e; rw [← e]; exact Hmb.out)).below2 (al _ _)).grown hgr (fun k e => .inl (.inr (.inl e)))).grown (setG _ _ _ _) (fun k e => by injection e with e; exact .inl (.inl e.symm)), ?_⟩
      rcases hgo with e | e
      · exact .inl e
      · right; omega)
    have HMb := hid (show none = some mb ∨ W.heap.size ≤ mb from by
      rcases Hmb.out with (e | e | e) | e
      · exact absurd e hbmb
      · exact absurd e (HPz.out.n3 mb rfl)
      · exact .inl e
      · exact .inr e)
    have hup2 : (Instr.mapUpdate 73 (.map (some mb)) (.agg #[.int .i64 xo, .int .i64 xa, .int .i64 xb, .int .u32 xk]) (.int .i64 (L.length : Int))).run Try.prog Wz.drew = .ok () W3 := hup
    have hb4 : W4.heap[b]? = Wz.heap[b]? := (hgr.block b (by have := hT3.grown.size; have h9 : Wz.heap.size ≤ W3.heap.size := this; simp; omega) (fun e => HPz.out.n1 e.symm)).trans ((Below.heap_alloc W3.drew _ b (by have := hT3.grown.size; have h9 : Wz.heap.size ≤ W3.heap.size := this; show b < W3.heap.size; omega)).trans e3)
    have s3c : W3.cell? ⟨b, 0, none⟩ = some (.slice a L.length c) := (World.cell?_of_block e3).trans c0
    have s3a : (W3.alloc (.cells #[.int .i64 xo, .int .i64 xa, .int .i64 xb, .int .u32 xk] 28)).cell? ⟨b, 0, none⟩ = some (.slice a L.length c) := (World.cell?_of_block (Below.heap_alloc W3 _ b (by have := hT3.grown.size; have h9 : Wz.heap.size ≤ W3.heap.size := this; omega))).trans s3c
    have s4c : W4.cell? ⟨b, 0, none⟩ = some (.slice a L.length c) := (World.cell?_of_block hb4).trans c0
    have s4f : W4.frozen? ⟨b, 0, none⟩ = false := (World.frozen?_of_block hb4).trans (cf 0)
    obtain ⟨u0, u1, u2, u3, uf⟩ := hN3.cells
    have hap2 : (Builtin.append_ #[29, 29] 29 #[.slice a L.length c, .slice (some ⟨W3.heap.size, 0, none⟩) 1 1]).run Try.prog (W3.drew.alloc (.cells #[.int .i64 xo, .int .i64 xa, .int .i64 xb, .int .u32 xk] 28)) = .ok (.slice (some ⟨g, 0, none⟩) (L.length + 1) cap') W4 := hap
    clear hap hup hO4 hO3 hOw hgr hgo hGz hD3 hT3 hb4 e3 eN HPz HNz HFz HO hN3 Hmb hb0
    go_region_with (fail)
    all_goals
      clear c0 c1 cf q0 q1 q2 q3 qf hup2
      go_wp2
      refine wp_region_any (by kernel_rfl) ?_
      change wpAny _ _ _ _ _ _ _ (World.drew _)
      refine wpAny_take (i := 0) (v := ?_) rfl (by kernel_rfl) (by kernel_rfl) (by kernel_rfl) (fun _ _ _ h => h) (Or.inl ⟨by rfl, ?_⟩) ?_
      rotate_left
      · (intro w; go_simp; try with_reducible rfl)
      refine wpAny_take (i := 1) (v := ?_) rfl (by kernel_rfl) (by kernel_rfl) (by kernel_rfl) (fun _ _ _ h => h) (Or.inl ⟨by rfl, ?_⟩) ?_
      rotate_left
      · (intro w; go_simp; try with_reducible rfl)
      refine wpAny_take (i := 2) (v := ?_) rfl (by kernel_rfl) (by kernel_rfl) (by kernel_rfl) (fun _ _ _ h => h) (Or.inl ⟨by rfl, ?_⟩) ?_
      rotate_left
      · (intro w; go_simp; try with_reducible rfl)
      refine wpAny_take (i := 3) (v := ?_) rfl (by kernel_rfl) (by kernel_rfl) (by kernel_rfl) (fun _ _ _ h => h) (Or.inl ⟨by rfl, ?_⟩) ?_
      rotate_left
      · (intro w; go_simp; try with_reducible rfl)
      refine wpAny_ready (rs := [4, 5]) (by kernel_rfl) (by simp) ?_
      refine AllReady.cons rfl (fun K hK => ?_) (AllReady.cons rfl (fun K hK => ?_) AllReady.nil)
      · go_simp
        refine hK _ _ ?_
        clear hK K
        refine wpAny_ready (rs := [5]) (by kernel_rfl) (by simp) ?_
        refine AllReady.cons rfl (fun K hK => ?_) AllReady.nil
        go_simp
        refine hK _ _ ?_
        clear hK K
        refine wpAny_ready (rs := [6]) (by kernel_rfl) (by simp) ?_
        refine AllReady.cons rfl (fun K hK => ?_) AllReady.nil
        go_simp
        refine hK _ _ ?_
        clear hK K
        refine wpAny_ready (rs := [7]) (by kernel_rfl) (by simp) ?_
        refine AllReady.cons rfl (fun K hK => ?_) AllReady.nil
        rw [if_pos (by rfl)]
        refine wp_app_run (tmpO 52) (tmpO 54) rfl (vs := .slice a L.length c) (vx := .slice (some ⟨W3.heap.size, 0, none⟩) 1 1) rfl rfl hap2 ?_
        refine hK _ _ ?_
        clear hK K
        refine wpAny_take (i := 8) (v := ?_) rfl (by kernel_rfl) (by kernel_rfl) (by kernel_rfl) (fun _ _ _ h => h) (Or.inl ⟨by rfl, ?_⟩) ?_
        rotate_left
        · (intro w; go_simp; try with_reducible rfl)
        refine wpAny_take (i := 9) (v := ?_) rfl (by kernel_rfl) (by kernel_rfl) (by kernel_rfl) (fun _ _ _ h => h) (Or.inl ⟨by rfl, ?_⟩) ?_
        rotate_left
        · (intro w; go_simp; try with_reducible rfl)
        refine wpAny_ready (rs := [10]) (by kernel_rfl) (by simp) ?_
        refine AllReady.cons rfl (fun K hK => ?_) AllReady.nil
        go_simp
        refine hK _ _ ?_
        clear hK K
        refine wpAny_done (by kernel_rfl) ?_ _
        go_wp2
        go_ret2
        exact ⟨g, cap', mb, rfl, HZ.out, HG.out.1, HG.out.2, by first | exact HMb.out | exact .inl rfl | exact .inr HMb.out⟩
      · go_simp
        refine hK _ _ ?_
        clear hK K
        refine wpAny_ready (rs := [4, 6]) (by kernel_rfl) (by simp) ?_
        refine AllReady.cons rfl (fun K hK => ?_) (AllReady.cons rfl (fun K hK => ?_) AllReady.nil)
        · go_simp
          refine hK _ _ ?_
          clear hK K
          refine wpAny_ready (rs := [6]) (by kernel_rfl) (by simp) ?_
          refine AllReady.cons rfl (fun K hK => ?_) AllReady.nil
          go_simp
          refine hK _ _ ?_
          clear hK K
          refine wpAny_ready (rs := [7]) (by kernel_rfl) (by simp) ?_
          refine AllReady.cons rfl (fun K hK => ?_) AllReady.nil
          rw [if_pos (by rfl)]
          refine wp_app_run (tmpO 52) (tmpO 54) rfl (vs := .slice a L.length c) (vx := .slice (some ⟨W3.heap.size, 0, none⟩) 1 1) rfl rfl hap2 ?_
          refine hK _ _ ?_
          clear hK K
          refine wpAny_take (i := 8) (v := ?_) rfl (by kernel_rfl) (by kernel_rfl) (by kernel_rfl) (fun _ _ _ h => h) (Or.inl ⟨by rfl, ?_⟩) ?_
          rotate_left
          · (intro w; go_simp; try with_reducible rfl)
          refine wpAny_take (i := 9) (v := ?_) rfl (by kernel_rfl) (by kernel_rfl) (by kernel_rfl) (fun _ _ _ h => h) (Or.inl ⟨by rfl, ?_⟩) ?_
          rotate_left
          · (intro w; go_simp; try with_reducible rfl)
          refine wpAny_ready (rs := [10]) (by kernel_rfl) (by simp) ?_
          refine AllReady.cons rfl (fun K hK => ?_) AllReady.nil
          go_simp
          refine hK _ _ ?_
          clear hK K
          refine wpAny_done (by kernel_rfl) ?_ _
          go_wp2
          go_ret2
          exact ⟨g, cap', mb, rfl, HZ.out, HG.out.1, HG.out.2, by first | exact HMb.out | exact .inl rfl | exact .inr HMb.out⟩
        · go_simp
          refine hK _ _ ?_
          clear hK K
          refine wpAny_ready (rs := [4]) (by kernel_rfl) (by simp) ?_
          refine AllReady.cons rfl (fun K hK => ?_) AllReady.nil
          go_simp
          refine hK _ _ ?_
          clear hK K
          refine wpAny_ready (rs := [7]) (by kernel_rfl) (by simp) ?_
          refine AllReady.cons rfl (fun K hK => ?_) AllReady.nil
          rw [if_pos (by rfl)]
          refine wp_app_run (tmpO 52) (tmpO 54) rfl (vs := .slice a L.length c) (vx := .slice (some ⟨W3.heap.size, 0, none⟩) 1 1) rfl rfl hap2 ?_
          refine hK _ _ ?_
          clear hK K
          refine wpAny_take (i := 8) (v := ?_) rfl (by kernel_rfl) (by kernel_rfl) (by kernel_rfl) (fun _ _ _ h => h) (Or.inl ⟨by rfl, ?_⟩) ?_
          rotate_left
          · (intro w; go_simp; try with_reducible rfl)
          refine wpAny_take (i := 9) (v := ?_) rfl (by kernel_rfl) (by kernel_rfl) (by kernel_rfl) (fun _ _ _ h => h) (Or.inl ⟨by rfl, ?_⟩) ?_
          rotate_left
          · (intro w; go_simp; try with_reducible rfl)
          refine wpAny_ready (rs := [10]) (by kernel_rfl) (by simp) ?_
          refine AllReady.cons rfl (fun K hK => ?_) AllReady.nil
          go_simp
          refine hK _ _ ?_
          clear hK K
          refine wpAny_done (by kernel_rfl) ?_ _
          go_wp2
          go_ret2
          exact ⟨g, cap', mb, rfl, HZ.out, HG.out.1, HG.out.2, by first | exact HMb.out | exact .inl rfl | exact .inr HMb.out⟩


end Go.Proofs.Ytkeigicobcjleab.TB
namespace Go.Proofs.Ytkeigicobcjleab.TB
open Go.ChangeShapes Go.WideShapes Go.ChangeAt Go.RowKit Go.Maps
open Go.Sort hiding Below
set_option linter.unusedVariables false
set_option maxRecDepth 100000

theorem Fr.mono {W W' : World} {F F2 : Nat → Prop} (h : Fr W W' F) (hF : ∀ b, F b → F2 b) : Fr W W' F2 := ⟨h.os, h.tape, h.output, h.size, fun b hb hn => h.block b hb (fun hf => hn (hF b hf))⟩
theorem pl_put (W : World) (F : Nat → Prop) (v : Value) (L : List TM.N) (o a b k : Int) (ok : TM.okN (o, a, b, k)) (h : Pl W F v L) (hm : TM.may (o, a, b, k) L.length = true) (hlen : L.length < 65536) (L' : List TM.N) (p : Nat) (hp : TM.putN L (o, a, b, k) = (L', p)) :
    Calls Try.prog 24 #[v, .agg #[.int .i64 o, .int .i64 a, .int .i64 b, .int .u32 k]] W fun e w' => ∃ F', e = .returned (.tuple #[.int .i64 (p : Int), .int .i64 0]) ∧ Pl w' F' v L' ∧ Fr W w' F ∧ (∀ b, F' b → F b ∨ W.heap.size ≤ b) := by
  obtain ⟨pb, pa, pc, mo, rfl, rfl, hP⟩ := h
  cases hf : TM.fnd L (o, a, b, k) with
  | some i =>
    rw [TM.putN_old hf] at hp
    injection hp with h1 h2
    subst h1 h2
    refine (put_old W pb pa pc mo L o a b k ok hP hm i hf).mono ?_
    rintro e w' ⟨rfl, hb⟩
    exact ⟨_, rfl, ⟨pb, pa, pc, mo, rfl, rfl, hP.below hb⟩, Fr.of_below hb, fun b hb => .inl hb⟩
  | none =>
    rw [TM.putN_new hf] at hp
    injection hp with h1 h2
    subst h1 h2
    refine (put_new W pb pa pc mo L o a b k ok hP hm hlen hf).mono ?_
    rintro e w' ⟨g, cap', mb, rfl, hP', hF, hg, hmb⟩
    refine ⟨_, rfl, ⟨pb, some ⟨g, 0, none⟩, cap', some mb, rfl, rfl, hP'⟩, hF, ?_⟩
    rintro b (rfl | e | e)
    · exact .inl (.inl rfl)
    · have e2 : g = b := by injection e
      subst e2
      rcases hg with h | h
      · exact .inl (.inr (.inl h))
      · exact .inr h
    · injection e with e
      subst e
      rcases hmb with h | h
      · exact .inl (.inr (.inr h))
      · exact .inr h
theorem cpool : PoolOk Pl := ⟨pl_keep, pl_lt, pl_new, pl_no, pl_put, pl_has, pl_none, pl_all⟩

end Go.Proofs.Ytkeigicobcjleab.TB
