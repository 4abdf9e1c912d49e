/-
  Two records compared.
-/
import Derived.Test.YtgdgigldodbpeaaDoorRecCells
import Derived.Laws.StructEq
namespace Go.Proofs.YtgdgigldodbpeaaDoor.B
open Go.ChangeShapes Go.WideShapes Go.ChangeAt Go.RowKit
set_option linter.unusedVariables false

theorem part_enc {a : List Int} (ha : a.length = 16) (i : Nat) (hi : i < 16) (W : World) : (part 22 (enc a) (i * 1)).run Tryd.prog W = .ok (.int .u32 (M.at_ a i)) W := by
  have h0 := enc_get ha i hi
  simp [part, go_sem, h0]
theorem eq_loop (a b : List Int) (W : World) (f : Nat → Option Bool × Unit → Sem (ForInStep (Option Bool × Unit)))
    (hf : ∀ i, i < 16 → (f i (none, ())).run Tryd.prog W = .ok (if M.at_ a i = M.at_ b i then .yield (none, ()) else .done (some false, ())) W) :
    ∀ n k, k + n = 16 → ((∀ i, k ≤ i → i < 16 → M.at_ a i = M.at_ b i) → (forIn (List.range' k n 1) (none, ()) f).run Tryd.prog W = .ok (none, ()) W) ∧
      ((¬ ∀ i, k ≤ i → i < 16 → M.at_ a i = M.at_ b i) → (forIn (List.range' k n 1) (none, ()) f).run Tryd.prog W = .ok (some false, ()) W)
  | 0, k, h => by
    refine ⟨fun _ => by simp, fun hn => (hn fun i h1 h2 => by omega).elim⟩
  | n + 1, k, h => by
    rw [List.range'_succ, List.forIn_cons, Sem.run_bind, hf k (by omega)]
    obtain ⟨ih1, ih2⟩ := eq_loop a b W f hf n (k + 1) (by omega)
    by_cases e : M.at_ a k = M.at_ b k
    · rw [if_pos e]
      simp only [Result.andThen_ok]
      refine ⟨fun hh => ih1 fun i h1 h2 => hh i (by omega) h2, fun hh => ih2 fun hc => hh fun i h1 h2 => ?_⟩
      by_cases e2 : i = k
      · rw [e2]; exact e
      · exact hc i (by omega) h2
    · rw [if_neg e]
      refine ⟨fun hh => (e (hh k (Nat.le_refl _) (by omega))).elim, fun _ => by simp [Result.andThen]⟩
theorem eq24 (a b : List Int) (ha : a.length = 16) (hb : b.length = 16) (d : Nat) (W : World) :
    (Op.equalIn (d + 2) 24 (.agg (enc a)) (.agg (enc b))).run Tryd.prog W = .ok (decide (a = b)) W := by
  rw [show d + 2 = (d + 1) + 1 from rfl, Op.equalIn]
  simp only [Sem.run_bind, run_underlying Tryd.underlying24, Result.andThen_ok, Tryd.sizeOf22, Std.Legacy.Range.forIn_eq_forIn_range', Std.Legacy.Range.size, Nat.sub_zero, Nat.add_one_sub_one, Nat.div_one]
  by_cases e : a = b
  · rw [(eq_loop a b W _ ?hf 16 0 (by omega)).1 (fun i _ _ => by rw [e])]
    case hf =>
      intro i hi
      simp only [Sem.run_bind, part_enc ha i hi, part_enc hb i hi, Result.andThen_ok, run_equalIn_int W d 22 .u32 .u32 _ _ Tryd.underlying22]
      by_cases e : M.at_ a i = M.at_ b i
      · rw [if_pos e]; simp [e]
      · rw [if_neg e]; simp [e]
    simp [Result.andThen, e]
  · have : ¬ ∀ i, 0 ≤ i → i < 16 → M.at_ a i = M.at_ b i := fun hh => e (M.ext16 ha hb fun i hi => hh i (Nat.zero_le _) hi)
    rw [(eq_loop a b W _ ?hf 16 0 (by omega)).2 this]
    case hf =>
      intro i hi
      simp only [Sem.run_bind, part_enc ha i hi, part_enc hb i hi, Result.andThen_ok, run_equalIn_int W d 22 .u32 .u32 _ _ Tryd.underlying22]
      by_cases e : M.at_ a i = M.at_ b i
      · rw [if_pos e]; simp [e]
      · rw [if_neg e]; simp [e]
    simp [Result.andThen, e]
theorem eql24 (a b : List Int) (ha : a.length = 16) (hb : b.length = 16) (W : World) : (binOp .eql 24 (.agg (enc a)) (.agg (enc b))).run Tryd.prog W = .ok (.bool (decide (a = b))) W := by
  rw [run_eql_struct W 24, eq24 a b ha hb 9998 W]; rfl
theorem neq24 (a b : List Int) (ha : a.length = 16) (hb : b.length = 16) (W : World) : (binOp .neq 24 (.agg (enc a)) (.agg (enc b))).run Tryd.prog W = .ok (.bool (!decide (a = b))) W := by
  rw [run_neq_struct W 24, eq24 a b ha hb 9998 W]; rfl
theorem guard24 (op : BinOp) (x y : Operand) (xs ys : Array Value) (W : World) : (eqGuard op 24 x y (.agg xs) (.agg ys)).run Tryd.prog W = .ok () W :=
  run_eqGuard_agg W op 24 x y xs ys (by kernel_rfl)
end Go.Proofs.YtgdgigldodbpeaaDoor.B
