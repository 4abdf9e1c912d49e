/-
  The reference's Put and Into of layer 11, as walks over the Go text.
-/
import Derived.Test.YtmjeoknndnbglaaTerRefE
namespace Go.Proofs.Ytmjeoknndnbglaa.TB
open Go.ChangeShapes Go.WideShapes Go.ChangeAt Go.RowKit
open Go.Sort hiding Below
set_option linter.unusedVariables false
set_option maxRecDepth 100000

theorem gtrans {a b c : World} {row : Option Nat} (h1 : Below a.heap.size a b) (h2 : b.grownBy c row) : a.grownBy c row :=
  ⟨h2.os.trans h1.os, h2.tape.trans h1.tape, h2.output.trans h1.output, Nat.le_trans h1.size h2.size, fun k hk hne => (h2.block k (Nat.lt_of_lt_of_le hk h1.size) hne).trans (h1.block k hk)⟩
theorem blk_at {a : Option Addr} {g : Nat} (h : blk a = some g) : ∃ A, a = some A ∧ A.block = g := by
  cases a with
  | none => cases h
  | some A => injection h with h; exact ⟨A, rfl, h⟩

set_option maxHeartbeats 3200000 in
set_option maxRecDepth 1000000 in
theorem rput_keep (base n cap : Nat) (a : Option Addr) (l : List TM.N) (xo xa xb xk : Int) (hn : n ≤ 65536) (w : World) (hO : OwnN w base a n cap l) (hbase : base ≤ w.heap.size) (L : List TM.N) (p : Nat) (hp : TM.putN l (xo, xa, xb, xk) = (L, p)) :
    Calls Try.prog 25 #[.slice a n cap, .agg #[.int .i64 xo, .int .i64 xa, .int .i64 xb, .int .u32 xk]] w fun e w' => ∃ a' n' cap', e = .returned (.tuple #[.slice a' n' cap', .int .i64 (p : Int)]) ∧ OwnN w' base a' n' cap' L ∧ w.grownBy w' (blk a) ∧ (∀ g, blk a' = some g → blk a = some g ∨ w.heap.size ≤ g) ∧ LiesN w' a l := by
  have hA := NAt.new w xo xa xb xk
  have HB := hid (al w (.cells #[.int .i64 xo, .int .i64 xa, .int .i64 xb, .int .u32 xk] 56))
  have HO := hid (hO.below HB.out)
  have HP := hid hp
  have HL := hid hO.len
  have HBs := hid (show base ≤ (w.alloc (.cells #[.int .i64 xo, .int .i64 xa, .int .i64 xb, .int .u32 xk] 56)).heap.size from Nat.le_trans hbase HB.out.size)
  have HAt := hid hO.at
  clear hO hp hbase
  obtain ⟨r0, r1, r2, r3, _⟩ := hA.cells
  simp only at r0 r1 r2 r3
  obtain ⟨w1, hw1⟩ : ∃ w1, w.alloc (.cells #[.int .i64 xo, .int .i64 xa, .int .i64 xb, .int .u32 xk] 56) = w1 := ⟨_, rfl⟩
  go_enter Try.func25, Try.ntmps25
  go_wp2
  rw [hw1] at HB HO HBs r0 r1 r2 r3 hA
  try rw [hw1]
  clear hw1
  go_loopw [6] (fun i wr => ∃ k q : Nat, k ≤ n ∧ i = .int .i64 k ∧ Hid (∀ j, j < k → TM.nat0 l j ≠ (xo, xa, xb, xk)) ∧ wr = w1.drewN q) (fun i _ => n - (intOf i).toNat)
  case atStart => exact ⟨0, 0, Nat.zero_le _, rfl, fun j hj => absurd hj (Nat.not_lt_zero _), rfl⟩
  case round =>
    obtain ⟨k, q, hk, rfl, HT, rfl⟩ := hrel
    by_cases hlt : k < n
    · have hkl : k < l.length := by rw [HL.out]; exact hlt
      obtain ⟨b1, o1, rfl, hl2⟩ := HO.out.lies.ly (by omega)
      obtain ⟨p0, p1, p2, p3⟩ := hl2.2 k hkl
      have HX := hid (show l[k] ≠ (xo, xa, xb, xk) → ∀ j, j < k + 1 → TM.nat0 l j ≠ (xo, xa, xb, xk) from fun h j hj => by
        by_cases e : j = k
        · subst e; rw [TM.nat0_eq hkl]; exact h
        · exact HT.out j (by omega))
      have HY := hid (show l[k] = (xo, xa, xb, xk) → L = l ∧ p = k from fun h => by
        have e := TM.putN_old (TM.fnd_some.2 ⟨hkl, by rw [TM.nat0_eq hkl]; exact h, HT.out⟩)
        have := HP.out
        rw [e] at this
        injection this with h1 h2
        exact ⟨h1.symm, h2.symm⟩)
      clear hl2 HT
      generalize l[k] = x at *
      obtain ⟨c1, t1, f1, k1⟩ := x
      simp only at p0 p1 p2 p3
      have i1 : (k : Int) < (n : Int) := by omega
      have hg := guardN
      have hnn := eqlN c1 t1 f1 k1 xo xa xb xk
      by_cases hxy : (c1, t1, f1, k1) = (xo, xa, xb, xk)
      · obtain ⟨e1, e2⟩ := HY.out hxy
        have HE := hid (And.intro e1 e2)
        have hd : decide ((c1, t1, f1, k1) = (xo, xa, xb, xk)) = true := by simpa using hxy
        simp only [hd] at hnn
        clear hxy hd HX HY e1 e2
        go_wp2
        go_quiet (fail)
        go_wp2
        go_ret2
        have hb := bdrew (bdrew HB.out q) nq
        exact ⟨_, n, cap, by rw [HE.out.2]; rfl, by rw [HE.out.1]; exact HO.out.below (bdrew (bdrew (Below.refl _ _) q) nq), ⟨hb.os, hb.tape, hb.output, hb.size, fun k hk _ => hb.block k hk⟩, fun g h => .inl h, (HO.out.below (bdrew (bdrew (Below.refl _ _) q) nq)).lies⟩
      · have HR := hid (HX.out hxy)
        have hd : decide ((c1, t1, f1, k1) = (xo, xa, xb, xk)) = false := by simpa using hxy
        simp only [hd] at hnn
        clear hxy hd HX HY
        go_wp2
        go_quiet (fail)
        go_wp2
        go_roundw
        case rel => exact ⟨k + 1, _, by omega, by go_num, HR, rfl⟩
        case measure => simp [intOf]; omega
    · obtain rfl : k = n := by omega
      have HE := hid (show L = l ++ [(xo, xa, xb, xk)] ∧ p = k from by
        have hl0 := HL.out
        have e := TM.putN_new (TM.fnd_none.2 (fun i hi => HT.out i (by omega)))
        have := HP.out
        rw [e] at this
        injection this with h1 h2
        exact ⟨h1.symm, by omega⟩)
      have HOq := hid (HO.out.below (bdrew (Below.refl _ _) q))
      have HBq := hid (bdrew HB.out q)
      have HBb := hid (show base ≤ (w1.drewN q).heap.size from HBs.out)
      have s0 : (w1.drewN q).cell? ⟨w.heap.size, 0, none⟩ = some (.int .i64 xo) := r0
      have s1 : (w1.drewN q).cell? ⟨w.heap.size, 1, none⟩ = some (.int .i64 xa) := r1
      have s2 : (w1.drewN q).cell? ⟨w.heap.size, 2, none⟩ = some (.int .i64 xb) := r2
      have s3 : (w1.drewN q).cell? ⟨w.heap.size, 3, none⟩ = some (.int .u32 xk) := r3
      clear r0 r1 r2 r3 hA HO HB HBs HT
      generalize w1.drewN q = w2 at *
      go_wp2_with (at_builtin; refine wpList_append_nodeK (by rfl) _ _ rfl base k cap 1 w2.heap.size 0 a l (xo, xa, xb, xk) rfl (HOq.out.below (al _ _)) rfl (ly_one w2 (xo, xa, xb, xk)) hn (Nat.le_trans HBb.out (al _ _).size) ?_)
      intro g cap' w3 hown hgr hgo hkp
      have HF := hid (And.intro hown (And.intro hgr (And.intro hgo hkp)))
      clear hown hgr hgo hkp
      go_wp2
      go_ret2
      obtain ⟨f1, f2, f3, f4⟩ := HF.out
      have hsz := HBq.out.size
      have hal := (al w2 (.cells #[.int .i64 xo, .int .i64 xa, .int .i64 xb, .int .u32 xk] 56)).size
      refine ⟨some ⟨g, 0, none⟩, k + 1, cap', by rw [HE.out.2]; rfl, by rw [HE.out.1]; exact f1, ?_, ?_, f4⟩
      · exact gtrans HBq.out (gtrans (al w2 _) f2)
      · intro g' h
        injection h with h
        subst h
        rcases f3 with h | h
        · exact .inl h
        · right; show w.heap.size ≤ g; omega
theorem rput_any (base n cap : Nat) (a : Option Addr) (l : List TM.N) (xo xa xb xk : Int) (hn : n ≤ 65536) (w : World) (hO : OwnN w base a n cap l) (hbase : base ≤ w.heap.size) (L : List TM.N) (p : Nat) (hp : TM.putN l (xo, xa, xb, xk) = (L, p)) :
    Calls Try.prog 25 #[.slice a n cap, .agg #[.int .i64 xo, .int .i64 xa, .int .i64 xb, .int .u32 xk]] w fun e w' => ∃ a' n' cap', e = .returned (.tuple #[.slice a' n' cap', .int .i64 (p : Int)]) ∧ OwnN w' base a' n' cap' L ∧ w.grownBy w' (blk a) ∧ (∀ g, blk a' = some g → blk a = some g ∨ w.heap.size ≤ g) :=
  (rput_keep base n cap a l xo xa xb xk hn w hO hbase L p hp).mono fun _ _ ⟨a', n', cap', h1, h2, h3, h4, _⟩ => ⟨a', n', cap', h1, h2, h3, h4⟩
end Go.Proofs.Ytmjeoknndnbglaa.TB
