/-
  The program's pool of layer 11, whole; Alike's closure, as walks over the Go text.
-/
import Derived.Test.YtmjeoknndnbglaaTerCodP
import Derived.Test.YtmjeoknndnbglaaT1
namespace Go.Proofs.Ytmjeoknndnbglaa.TB
open Go.ChangeShapes Go.WideShapes Go.ChangeAt Go.RowKit Go.Maps
open Go.Sort hiding Below
set_option linter.unusedVariables false
set_option maxRecDepth 100000

theorem Fr.mono {W W' : World} {F F2 : Nat → Prop} (h : Fr W W' F) (hF : ∀ b, F b → F2 b) : Fr W W' F2 := ⟨h.os, h.tape, h.output, h.size, fun b hb hn => h.block b hb (fun hf => hn (hF b hf))⟩
theorem pl_put (W : World) (F : Nat → Prop) (v : Value) (L : List TM.N) (o a b k : Int) (ok : TM.okN (o, a, b, k)) (h : Pl W F v L) (hm : TM.may (o, a, b, k) L.length = true) (hlen : L.length < 65536) (L' : List TM.N) (p : Nat) (hp : TM.putN L (o, a, b, k) = (L', p)) :
    Calls Try.prog 23 #[v, .agg #[.int .i64 o, .int .i64 a, .int .i64 b, .int .u32 k]] W fun e w' => ∃ F', e = .returned (.tuple #[.int .i64 (p : Int), .int .i64 0]) ∧ Pl w' F' v L' ∧ Fr W w' F ∧ (∀ b, F' b → F b ∨ W.heap.size ≤ b) := by
  obtain ⟨pb, pa, pc, mo, rfl, rfl, hP⟩ := h
  cases hf : TM.fnd L (o, a, b, k) with
  | some i =>
    rw [TM.putN_old hf] at hp
    injection hp with h1 h2
    subst h1 h2
    refine (put_old W pb pa pc mo L o a b k ok hP hm i hf).mono ?_
    rintro e w' ⟨rfl, hb⟩
    exact ⟨_, rfl, ⟨pb, pa, pc, mo, rfl, rfl, hP.below hb⟩, Fr.of_below hb, fun b hb => .inl hb⟩
  | none =>
    rw [TM.putN_new hf] at hp
    injection hp with h1 h2
    subst h1 h2
    refine (put_new W pb pa pc mo L o a b k ok hP hm hlen hf).mono ?_
    rintro e w' ⟨g, cap', mb, rfl, hP', hF, hg, hmb⟩
    refine ⟨_, rfl, ⟨pb, some ⟨g, 0, none⟩, cap', some mb, rfl, rfl, hP'⟩, hF, ?_⟩
    rintro b (rfl | e | e)
    · exact .inl (.inl rfl)
    · have e2 : g = b := by injection e
      subst e2
      rcases hg with h | h
      · exact .inl (.inr (.inl h))
      · exact .inr h
    · injection e with e
      subst e
      rcases hmb with h | h
      · exact .inl (.inr (.inr h))
      · exact .inr h
theorem cpool : PoolOk Pl := ⟨pl_keep, pl_lt, pl_new, pl_no, pl_put, pl_has, pl_none, pl_all⟩

set_option maxHeartbeats 3200000 in
theorem calike1 (L : List TM.N) (hL : TM.Row L) (ok : ∀ x ∈ L, TM.okN x) (k : Nat) (hk : k < L.length) (C : Nat) (v : Value) (F : Nat → Prop) (w : World) (hP : Pl w F v (TM.pl [] L k)) (hC : One w C v 58) :
    Calls Try.prog 44 #[.agg #[.int .i64 L[k].1, .int .i64 L[k].2.1, .int .i64 L[k].2.2.1, .int .u32 L[k].2.2.2], .int .i64 (if L[k].1 ≤ 2 then 0 else ((TM.plc [] L L[k].2.1.toNat : Nat) : Int)), .int .i64 (if L[k].1 ≤ 2 ∨ L[k].1 = 384 then 0 else ((TM.plc [] L L[k].2.2.1.toNat : Nat) : Int)), .pointer (some ⟨C, 0, none⟩)] w fun e w' => ∃ F', e = .returned (.int .i64 ((TM.plc [] L k : Nat) : Int)) ∧ Pl w' F' v (TM.pl [] L (k + 1)) ∧ Fr w w' F ∧ (∀ b, F' b → F b ∨ w.heap.size ≤ b) := by
  have hlen0 := hL.1
  obtain ⟨i1, i2, i3, i4, i5, i6, i7⟩ := TM.pl_inv hL ok TM.row_nil TM.once_nil (by simp) (by simpa using hlen0) k (by omega)
  have hmay0 := hL.2 k hk
  have hlt : ∀ j ∈ TM.parts (TM.nat0 L k), TM.plc [] L j < (TM.pl [] L k).length := fun j hj => (i5 j (TM.parts_lt hmay0 hj)).1
  have hmm : TM.may (TM.mv [] L k) (TM.pl [] L k).length = true := TM.moved_may hmay0 hlt
  have hlen : (TM.pl [] L k).length < 65536 := by simp at i1; omega
  have hmok : TM.okN (TM.mv [] L k) := TM.moved_ok (TM.nat0_ok ok k) (m := (TM.pl [] L k).length) (by omega) hlt
  have hput : TM.putN (TM.pl [] L k) (TM.mv [] L k) = (TM.pl [] L (k + 1), TM.plc [] L k) := by rw [TM.pl_succ hL hk, TM.plc_eq hL hk]
  have hmv : TM.mv [] L k = (L[k].1, (if L[k].1 ≤ 2 then 0 else ((TM.plc [] L L[k].2.1.toNat : Nat) : Int)), (if L[k].1 ≤ 2 ∨ L[k].1 = 384 then 0 else ((TM.plc [] L L[k].2.2.1.toNat : Nat) : Int)), L[k].2.2.2) := by
    have hmo := TM.may_ok hmay0
    rw [TM.nat0_eq hk] at hmo
    unfold TM.mv
    rw [TM.nat0_eq hk]
    generalize L[k] = x at hmo
    obtain ⟨xo, xa, xb, xk⟩ := x
    simp only at hmo ⊢
    unfold TM.moved
    by_cases h2 : xo ≤ 2
    · rw [if_pos h2, if_pos h2, if_pos (.inl h2)]
      have : xa = 0 ∧ xb = 0 := by
        rcases hmo with h | h | h | h
        · exact ⟨h.2.1, h.2.2⟩
        · exact ⟨h.2.1, h.2.2.1⟩
        · omega
        · have := TM.isA_12 h.1; omega
      rw [this.1, this.2]
    · by_cases h3 : xo = 384
      · rw [if_neg h2, if_pos h3, if_neg h2, if_pos (.inr h3)]
        have : xb = 0 := by
          rcases hmo with h | h | h | h
          · omega
          · omega
          · exact h.2.2.2.2
          · exact absurd h3 h.2.1
        rw [this]
      · rw [if_neg h2, if_neg h3, if_neg h2, if_neg (by omega)]
  obtain ⟨A, hA⟩ : ∃ A : Int, (if L[k].1 ≤ 2 then 0 else ((TM.plc [] L L[k].2.1.toNat : Nat) : Int)) = A := ⟨_, rfl⟩
  obtain ⟨B, hB⟩ : ∃ B : Int, (if L[k].1 ≤ 2 ∨ L[k].1 = 384 then 0 else ((TM.plc [] L L[k].2.2.1.toNat : Nat) : Int)) = B := ⟨_, rfl⟩
  rw [hA, hB] at hmv ⊢
  clear hA hB
  rw [hmv] at hmm hmok hput
  obtain ⟨x, hx⟩ : ∃ x, L[k] = x := ⟨_, rfl⟩
  rw [hx] at hmm hmok hput ⊢
  obtain ⟨xo, xa, xb, xk⟩ := x
  simp only at hmm hmok hput ⊢
  have hPut := hid (fun W F v (h : Pl W F v (TM.pl [] L k)) => pl_put W F v _ xo A B xk hmok h hmm hlen _ _ hput)
  obtain ⟨z, hz⟩ : ∃ z, TM.plc [] L k = z := ⟨_, rfl⟩
  obtain ⟨L2, hL2⟩ : ∃ L2, TM.pl [] L (k + 1) = L2 := ⟨_, rfl⟩
  rw [hz, hL2] at hPut ⊢
  have hCl := hC.lt
  have HN := hid (NAt.new w xo A B xk)
  have HB := hid (al w (.cells #[.int .i64 xo, .int .i64 A, .int .i64 B, .int .u32 xk] 56))
  have hC2 := (hC.below HB.out).cell
  have HP := hid (cpool.below hP HB.out)
  clear i1 i2 i3 i4 i5 i6 i7 hmay0 hlt hmm hmok hput hmv hx hlen hlen0 hL ok hk hz hL2 hP hC
  obtain ⟨q0, q1, q2, q3, qf⟩ := HN.out.cells
  go_enter Try.func44, Try.ntmps44
  go_wp2_with fail
  refine (hPut.out _ _ _ HP.out).mono ?_
  rintro e w1 ⟨F', rfl, h1, h2, h3⟩
  have HZ := hid (show Pl w1 F' v L2 ∧ Fr w w1 F ∧ (∀ b, F' b → F b ∨ w.heap.size ≤ b) from ⟨h1, ⟨h2.os.trans HB.out.os, h2.tape.trans HB.out.tape, h2.output.trans HB.out.output, Nat.le_trans HB.out.size h2.size, fun b hb hF => (h2.block b (Nat.lt_of_lt_of_le hb HB.out.size) hF).trans (HB.out.block b hb)⟩, fun b hb => by
    rcases h3 b hb with h | h
    · exact .inl h
    · exact .inr (Nat.le_trans HB.out.size h)⟩)
  clear h1 h2 h3 hPut HP HN HB q0 q1 q2 q3 qf hC2
  go_wp2
  go_ret
  exact ⟨F', rfl, HZ.out⟩
end Go.Proofs.Ytmjeoknndnbglaa.TB
