/-
  The library's iterator over nodes from the back on; as walks over the Go text.
-/
import Derived.Test.YtapbeffjnpgglabTerCodA
import Derived.Test.YtapbeffjnpgglabTerLawO
import Derived.RangeFuncNested
import Derived.RangeFuncBound
import Derived.RangeFuncCalls
import Derived.RangeFuncLeaves
import Derived.Shelf.Abstract
import Derived.Shelf.RegionOpen
import Derived.WalkKit
import Derived.OwnWalkIn
import Derived.TacticsInMore
import Derived.LoopNIn
import Derived.LoopIn
namespace Go.Proofs.Ytapbeffjnpgglab.TB
open Go.ChangeShapes Go.WideShapes Go.ChangeAt Go.RowKit Go.Shelf
open Go.Sort hiding Below
set_option linter.unusedVariables false
set_option maxRecDepth 100000
attribute [local go_sem] Oper.semAt_some

/-- the first q places from the back on -/
def dn (n : Nat) : Nat → List (Fin n)
  | 0 => []
  | q + 1 => dn n q ++ (if h : n - 1 - q < n then [⟨n - 1 - q, h⟩] else [])
theorem dn_succ {n q : Nat} (h : q < n) : dn n (q + 1) = dn n q ++ [⟨n - 1 - q, by omega⟩] := by
  rw [dn, dif_pos (by omega)]
theorem dn_len {n : Nat} : ∀ q, q ≤ n → (dn n q).length = q := by
  intro q
  induction q with
  | zero => intro _; rfl
  | succ q ih => intro h; rw [dn_succ (by omega), List.length_append, ih (by omega)]; rfl
theorem dn_next {n k : Nat} (h : k < n) : dn n (n - k) = dn n (n - (k + 1)) ++ [⟨k, h⟩] := by
  rw [show n - k = n - (k + 1) + 1 by omega, dn_succ (by omega)]
  congr 2
  apply Fin.ext
  show n - 1 - (n - (k + 1)) = k
  omega
/-- what a round keeps: what lay below n₀, and the block Bs -/
structure KpB (n₀ Bs : Nat) (W W' : World) : Prop where
  low : Below n₀ W W'
  at_ : ∀ o, W.heap[Bs]? = some o → W'.heap[Bs]? = some o
theorem KpB.refl (n₀ Bs : Nat) (W : World) : KpB n₀ Bs W W := ⟨Below.refl _ _, fun _ h => h⟩
theorem KpB.trans {n₀ Bs : Nat} {A B C : World} (h : KpB n₀ Bs A B) (h' : KpB n₀ Bs B C) : KpB n₀ Bs A C := ⟨h.low.trans h'.low, fun o e => h'.at_ o (h.at_ o e)⟩
/-- what comes: a place and its node -/
def encB (L : List TM.N) (n : Nat) (x : Fin n) : Array Value := #[.int .i64 (x.1 : Int), .agg #[.int .i64 (TM.nat0 L x.1).1, .int .i64 (TM.nat0 L x.1).2.1, .int .i64 (TM.nat0 L x.1).2.2.1, .int .u32 (TM.nat0 L x.1).2.2.2]]

set_option maxHeartbeats 2000000 in
theorem back1_in (F : Fence) (n : Nat) (h58 : F.fn 48) (hro : F.round = none) (hn : 1 ≤ n) (l Bs n₀ : Nat) (A : Option Addr) (m cap : Nat) (L : List TM.N) (hlm : L.length = m) (hm : m ≤ 65536) (hA : 0 < m → ∀ a, A = some a → a.block < n₀) (J Jx : List (Fin m) → World → Prop)
    (hY : ∀ pre x W, J pre W → pre.length < m → YieldAt F (n - 1) Try.prog l (encB L m x) W fun e W' =>
      (e = .returned (.bool true) ∧ J (pre ++ [x]) W' ∧ KpB n₀ Bs W W') ∨ (e = .returned (.bool false) ∧ Jx (pre ++ [x]) W'))
    (W : World) (hBs : W.heap[Bs]? = some (.cells #[.slice A m cap] 22 (0, 0))) (hl : LiesN W A L) (h0 : J [] W) :
    CallsIn F n Try.prog 48 #[.func (.yield l) #[] #[], .pointer (some ⟨Bs, 0, none⟩)] W fun e W' => (∃ v, e = .returned v) ∧
      ((∃ ys, ys = dn m m ∧ J ys W') ∨ (∃ pre, (∃ k, k ≤ m ∧ pre = dn m k) ∧ Jx pre W')) := by
  refine callsIn_of_wp Try.func48 rfl h58 ?_ hro
  simp only [Try.ntmps48, List.size_toArray, List.length_cons, List.length_nil, Nat.reduceAdd, Nat.reduceSub, Array.replicate_succ, Array.replicate_zero, List.push_toArray, List.append_toArray, List.nil_append, List.cons_append]
  have z1 : IntKind.i64.wrap ((m : Int) - 1) = (m : Int) - 1 := Go.IntWalk.i64_in _ (by omega)
  have hBs0 : W.cell? ⟨Bs, 0, none⟩ = some (.slice A m cap) := by simp [World.cell?, hBs]
  gi_wp2
  gi_loopw [3] (fun i wr => ∃ k : Nat, k ≤ m ∧ i = .int .i64 ((k : Int) - 1) ∧ J (dn m (m - k)) wr ∧ KpB n₀ Bs W wr)
    (fun i _ => (intOf i + 1).toNat)
  case atStart => exact ⟨m, Nat.le_refl _, rfl, by rw [Nat.sub_self]; exact h0, KpB.refl _ _ _⟩
  case round =>
    obtain ⟨k, hk, rfl, hJs, hnx⟩ := hrel
    have hBs2 : wr.cell? ⟨Bs, 0, none⟩ = some (.slice A m cap) := by simp [World.cell?, hnx.at_ _ hBs]
    cases k with
    | zero =>
      have i0 : ¬ (0 : Int) ≤ ((0 : Nat) : Int) - 1 := by omega
      gi_wp2
      go_end0
      first | exact ⟨⟨_, rfl⟩, .inl ⟨_, rfl, hJs⟩⟩ | exact ⟨⟨_, rfl⟩, .inl hJs⟩
    | succ k =>
      obtain ⟨b, o, rfl, hly⟩ := hl.ly (by omega)
      obtain ⟨q0, q1, q2, q3⟩ := (hly.far hnx.low (hA (by omega) _ rfl)).2 k (by omega)
      have h0x : TM.nat0 L k = L[k] := TM.nat0_eq (by omega)
      obtain ⟨fn, tmps, assign, body, hy, hR⟩ := hY _ ⟨k, hk⟩ wr hJs (by rw [dn_len _ (by omega)]; omega)
      unfold encB at hy
      dsimp only at hy
      rw [h0x] at hy
      have z2 : (((k + 1 : Nat) : Int) - 1) = (k : Int) := by omega
      rw [z2]
      have z3 : IntKind.i64.wrap ((k : Int) - 1) = (k : Int) - 1 := Go.IntWalk.i64_in _ (by omega)
      have i1 : (k : Int) < (m : Int) := by omega
      have i2 : (0 : Int) ≤ (k : Int) := by omega
      gi_wp2
      refine hR.mono ?_
      rintro e W3 (⟨rfl, hJ3, hk3⟩ | ⟨rfl, hJx3⟩)
      · gi_wp2
        go_roundw
        case rel => exact ⟨k, by omega, rfl, by rw [dn_next hk]; exact hJ3, hnx.trans hk3⟩
        case measure => simp [intOf]
      · gi_wp2
        refine bodyPost_ret (results_none rfl _ _ _) rfl ?_
        exact ⟨⟨_, rfl⟩, .inr ⟨_, ⟨m - k, by omega, (dn_next hk).symm⟩, hJx3⟩⟩

set_option maxHeartbeats 1000000 in
theorem back_in (F : Fence) (n : Nat) (h57 : F.fn 38) (hro : F.round = none) (a : Option Addr) (len cap : Nat) (w : World) :
    CallsIn F n Try.prog 38 #[.slice a len cap] w fun e w' => e = .returned (.func (.func 48) #[] #[.pointer (some ⟨w.heap.size, 0, none⟩)]) ∧ w' = w.alloc (.cells #[.slice a len cap] 22) := by
  refine callsIn_of_wp Try.func38 rfl h57 ?_ hro
  simp only [Try.ntmps38, List.size_toArray, List.length_cons, List.length_nil, Nat.reduceAdd, Nat.reduceSub, Array.replicate_succ, Array.replicate_zero, List.push_toArray, List.append_toArray, List.nil_append, List.cons_append]
  gi_wp2
  go_ret
  exact ⟨rfl, rfl⟩

theorem back_stops (F : Fence) (n : Nat) (h58 : F.fn 48) (hro : F.round = none) (hn : 1 ≤ n) (Bs n₀ : Nat) (A : Option Addr) (m cap : Nat) (L : List TM.N) (hlm : L.length = m) (hm : m ≤ 65536) (hA : 0 < m → ∀ a, A = some a → a.block < n₀) (w : World) (hn₀ : n₀ ≤ w.heap.size)
    (hc : w.heap[Bs]? = some (.cells #[.slice A m cap] 22 (0, 0))) (hl : LiesN w A L) :
    SeqStopsK F n Try.prog 48 #[.pointer (some ⟨Bs, 0, none⟩)] (encB L m) (KpB n₀ Bs) (fun ys => ys = dn m m) (fun pre => ∃ k, k ≤ m ∧ pre = dn m k) m w := fun l J Jx W hW _ _ hY h0 =>
  back1_in F n h58 hro hn l Bs n₀ A m cap L hlm hm hA J Jx hY W ((hW.block Bs (Array.getElem?_eq_some_iff.1 hc).1).trans hc) (by
    rcases Nat.eq_zero_or_pos m with h | h
    · exact .inl (List.eq_nil_of_length_eq_zero (by omega))
    · exact hl.far hW (fun a ha => Nat.lt_of_lt_of_le (hA h a ha) hn₀)) h0
end Go.Proofs.Ytapbeffjnpgglab.TB
