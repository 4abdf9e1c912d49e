/-
  The program's pool of layer 11: Put of what may stand, as walks over the Go text.
-/
import Derived.Test.YtmjeoknndnbglaaTerCodM
namespace Go.Proofs.Ytmjeoknndnbglaa.TB
open Go.ChangeShapes Go.WideShapes Go.ChangeAt Go.RowKit Go.Maps
open Go.Sort hiding Below
set_option linter.unusedVariables false
set_option maxRecDepth 100000

theorem Fr.refl (W : World) (F : Nat → Prop) : Fr W W F := ⟨rfl, rfl, rfl, Nat.le_refl _, fun _ _ _ => rfl⟩
theorem Fr.of_below {W W' : World} {F : Nat → Prop} (h : Below W.heap.size W W') : Fr W W' F := ⟨h.os, h.tape, h.output, h.size, fun b hb _ => h.block b hb⟩
theorem Fr.grown {W A B : World} {F : Nat → Prop} {row : Option Nat} (h : Fr W A F) (hg : A.grownBy B row) (hr : ∀ b, row = some b → F b ∨ W.heap.size ≤ b) : Fr W B F :=
  ⟨hg.os.trans h.os, hg.tape.trans h.tape, hg.output.trans h.output, Nat.le_trans h.size hg.size, fun b hb hF => by
    rw [hg.block b (Nat.lt_of_lt_of_le hb h.size) (fun e => by
      rcases hr b e.symm with h1 | h1
      · exact hF h1
      · omega)]
    exact h.block b hb hF⟩
theorem Fr.below2 {W A B : World} {F : Nat → Prop} (h : Fr W A F) (hb : Below A.heap.size A B) : Fr W B F := h.grown (grown_of_below hb) (fun b e => by cases e)
theorem setG (W : World) (b j : Nat) (v : Value) : W.grownBy (W.setCell ⟨b, j, none⟩ v) (some b) := ⟨rfl, rfl, rfl, by simp, fun k hk hne => Below.heap_setCell _ _ _ _ (fun e => hne (by rw [e]))⟩
theorem run_app1 {w : World} {base n cap c b o' ty : Nat} {a0 : Option Addr} {A : List TM.N} {y : TM.N} (hown : OwnN w base a0 n cap A) (hl : LyN w b o' [y]) (hnm : n ≤ 65536) (hbase : base ≤ w.heap.size) :
    ∃ g cap' w', (Builtin.append_ #[22, 22] ty #[.slice a0 n cap, .slice (some ⟨b, o', none⟩) 1 c]).run Try.prog w = .ok (.slice (some ⟨g, 0, none⟩) (n + 1) cap') w' ∧ OwnN w' base (some ⟨g, 0, none⟩) (n + 1) cap' (A ++ [y]) ∧ w.grownBy w' (blk a0) ∧ (blk a0 = some g ∨ g = w.heap.size) := by
  obtain ⟨i0, hi, hz0, hz1, hz2⟩ := info_parts infoN
  have hbk : ∀ v, v = Value.slice a0 n cap → v.ownBlock = blk a0 := fun v hv => by subst hv; cases a0 <;> rfl
  obtain ⟨g, cap', w', hr, h1, h2, h3, _⟩ := run_append_lies (P := Try.prog) w 22 ty base 56 i0 (.agg #[.int .i64 0, .int .i64 0, .int .i64 0, .int .u32 0]) 4 32 Try.underlying22 hi hz0 hz1 hz2 rfl (by decide) _ n _ hown.own ⟨b, o', none⟩ 1 c (n4s [y]) (by rw [n4s_len]; rfl) (lies_cells hl) (n4s_one [y]) (by omega) (by unfold maxLen; omega) (by omega) hbase w.heap.size rfl
  rw [← n4s_append] at h1
  rw [hbk _ rfl] at h2 h3
  exact ⟨g, cap', w', hr, ⟨h1, by rw [List.length_append, hown.len]; rfl⟩, h2, h3⟩
theorem kn_key (y : TM.N) : WideAt.IsKeyLit (kn y) := trivial
/-- a map made for an empty pool -/
theorem Pb.made {W : World} {b : Nat} {a : Option Addr} {c : Nat} {L : List TM.N} (h : Pb W b a c none L) :
    Pb ((W.alloc (.map #[] 0)).setCell ⟨b, 1, none⟩ (.map (some W.heap.size))) b a c (some W.heap.size) L := by
  have hL : L = [] := by
    rcases h.map with ⟨_, e⟩ | ⟨_, e, _⟩
    · exact e
    · cases e
  have hb := h.lt b (.inl rfl)
  have h2 := h.below (al W (.map #[] 0))
  refine ⟨set_cells _ h2.at_, h2.own.keep (fun k e => Below.heap_setCell _ _ _ _ (fun e2 => h.n1 (by rw [e, e2]))), ?_, h.len, h.ok, h.n1, ?_, ?_⟩
  · refine .inr ⟨_, rfl, .map [], ?_, fun x _ => ⟨fun i hi => ?_, fun _ => rfl⟩⟩
    · have := World.ownsMap_made (H := Unit) W Try.prog 56 (plainElem Try.prog 3)
      rw [hL]
      exact this.setCell (by show W.heap.size ≠ b; omega) _
    · have := (TM.fnd_some.1 hi).1; rw [hL] at this; simp at this
  · intro e; injection e with e; omega
  · intro m hm e
    injection hm with hm
    have := h.lt m (.inr (.inl e))
    omega
/-- a node more, in map and row -/
theorem Pb.more {W W3 W4 : World} {b : Nat} {a : Option Addr} {c mb : Nat} {L : List TM.N} {x : TM.N} (h : Pb W b a c (some mb) L) (ok : TM.okN x) (hf : TM.fnd L x = none) (hlen : L.length < 65536)
    (hG : W.grownBy W3 (some mb)) (hD : Mp W3 (some mb) (L ++ [x])) {o : Obj} {g cap' : Nat} (hO : OwnN W4 0 (some ⟨g, 0, none⟩) (L.length + 1) cap' (L ++ [x])) (hg : (W3.alloc o).grownBy W4 (blk a)) (hgo : blk a = some g ∨ g = (W3.alloc o).heap.size) :
    Pb (W4.setCell ⟨b, 0, none⟩ (.slice (some ⟨g, 0, none⟩) (L.length + 1) cap')) b (some ⟨g, 0, none⟩) cap' (some mb) (L ++ [x]) := by
  have hb := h.lt b (.inl rfl)
  have hmb := h.lt mb (.inr (.inr rfl))
  have hs3 : W.heap.size ≤ W3.heap.size := hG.size
  have hs : (W3.alloc o).heap.size = W3.heap.size + 1 := by simp
  have hgb : g ≠ b := by
    rcases hgo with e | e
    · intro e2; exact h.n1 (by rw [e, e2])
    · omega
  have hgm : g ≠ mb := by
    rcases hgo with e | e
    · intro e2; exact h.n3 mb rfl (by rw [e, e2])
    · omega
  have hbm : mb ≠ b := fun e => h.n2 (by rw [e])
  have e3 : W3.heap[b]? = W.heap[b]? := hG.block b hb (fun e => hbm (by injection e with e; exact e.symm))
  have e4 : W4.heap[b]? = (W3.alloc o).heap[b]? := hg.block b (by omega) (fun e => h.n1 e.symm)
  have e5 : (W3.alloc o).heap[b]? = W3.heap[b]? := Below.heap_alloc _ _ _ (by omega)
  have em : W4.heap[mb]? = W3.heap[mb]? := (hg.block mb (by omega) (fun e => h.n3 mb rfl e.symm)).trans (Below.heap_alloc _ _ _ (by omega))
  have hat := set_cells (j := 0) (Value.slice (some ⟨g, 0, none⟩) (L.length + 1) cap') (e4.trans (e5.trans (e3.trans h.at_)))
  refine ⟨by rw [List.length_append]; exact hat, ?_, ?_, by rw [List.length_append]; simp; omega, fun y hy => ?_, ?_, h.n2, ?_⟩
  · rw [List.length_append]
    exact hO.keep (fun k e => Below.heap_setCell _ _ _ _ (fun e2 => hgb (by injection e with e; exact e.trans e2)))
  · exact hD.keep (fun m hm2 => by
      injection hm2 with hm2
      subst hm2
      rw [Below.heap_setCell _ _ _ _ (show mb ≠ b from hbm)]; exact em)
  · rcases List.mem_append.1 hy with hy | hy
    · exact h.ok y hy
    · rw [List.mem_singleton] at hy; rw [hy]; exact ok
  · intro e; injection e with e; exact hgb e
  · intro m hm2 e
    injection hm2 with hm2
    injection e with e
    exact hgm (by rw [hm2]; exact e)
theorem Mp.more {W : World} {mb : Nat} {L : List TM.N} {x : TM.N} (h : Mp W (some mb) L) (ok : TM.okN x) (hf : TM.fnd L x = none) (hlen : L.length < 65536) :
    ∃ W', (Instr.mapUpdate 82 (.map (some mb)) (nv x) (.int .i64 (L.length : Int))).run Try.prog W = .ok () W' ∧ Mp W' (some mb) (L ++ [x]) ∧ W.mapTurned W' mb := by
  rcases h with ⟨e, _⟩ | ⟨mb', e, D, hm, hD⟩
  · cases e
  injection e with e
  subst e
  have hwf : (Lit.int .i64 (L.length : Int)).wf = true := by simp [Lit.wf, IntKind.min, IntKind.max, IntKind.bits, IntKind.signed]; omega
  obtain ⟨W', hrun, h1, h2⟩ := hm.store lawN Try.underlying82 (by unfold maxLen; omega) (keyN ok) (plainElem_int Try.underlying3 hwf)
  refine ⟨W', hrun, .inr ⟨mb, rfl, _, by rw [List.length_append]; exact h1, fun y oky => ?_⟩, h2⟩
  by_cases e : y = x
  · subst e
    refine ⟨fun i hi => ?_, fun hn => ?_⟩
    · rw [TM.fnd_app hf] at hi
      injection hi with hi
      rw [← hi]
      exact ⟨has_put_same hm.isMap (kn_key _) _, atKey_put_same hm.isMap (kn_key _) _ _⟩
    · rw [TM.fnd_app hf] at hn; cases hn
  · have hne : kn y ≠ kn x := fun h => e (kn_inj oky ok h)
    rw [TM.fnd_app' e, has_put_other hne, atKey_put_other hne]
    exact hD y oky
end Go.Proofs.Ytmjeoknndnbglaa.TB
