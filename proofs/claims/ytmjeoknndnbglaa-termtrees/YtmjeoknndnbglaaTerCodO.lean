/-
  The program's pool of layer 11: Put of what may stand, walked.
-/
import Derived.Test.YtmjeoknndnbglaaTerCodN
import Derived.WalkSpells
namespace Go.Proofs.Ytmjeoknndnbglaa.TB
open Go.ChangeShapes Go.WideShapes Go.ChangeAt Go.RowKit Go.Maps
open Go.Sort hiding Below
set_option linter.unusedVariables false
set_option maxRecDepth 100000

theorem eqNilM (w : World) (r : Option Nat) : (binOp .eql 82 (.map r) (.map none)).run Try.prog w = .ok (.bool r.isNone) w := run_eql_map_nil w _ _ _ r Try.underlying82
set_option maxHeartbeats 3200000 in
theorem put_old (W : World) (b : Nat) (a : Option Addr) (c : Nat) (mo : Option Nat) (L : List TM.N) (xo xa xb xk : Int) (ok : TM.okN (xo, xa, xb, xk)) (h : Pb W b a c mo L) (hm : TM.may (xo, xa, xb, xk) L.length = true) (i : Nat) (hf : TM.fnd L (xo, xa, xb, xk) = some i) :
    Calls Try.prog 23 #[.pointer (some ⟨b, 0, none⟩), .agg #[.int .i64 xo, .int .i64 xa, .int .i64 xb, .int .u32 xk]] W fun e w' => e = .returned (.tuple #[.int .i64 (i : Int), .int .i64 0]) ∧ Below W.heap.size W w' := by
  have HB := hid (al W (.cells #[.int .i64 xo, .int .i64 xa, .int .i64 xb, .int .u32 xk] 56))
  have HN := hid (NAt.new W xo xa xb xk)
  have HP := hid (h.below HB.out)
  obtain ⟨c0, c1, cf⟩ := HP.out.cells
  have HC := hid (fun W => cstands xo xa xb xk ok L.length W true hm)
  have HL := hid (fun W (hM : Mp W mo L) => hM.look ok)
  have HF := hid hf
  clear h hm hf ok
  go_enter Try.func23, Try.ntmps23
  go_wp2_with fail
  refine (HC.out _).mono ?_
  rintro e w1 ⟨rfl, hb⟩
  have HP1 := hid (HP.out.below hb)
  have HB1 := stp HB hb
  have HN1 := hid (HN.out.below hb)
  clear hb HP HB HN HC c0 c1 cf
  obtain ⟨c0, c1, cf⟩ := HP1.out.cells
  obtain ⟨q0, q1, q2, q3, qf⟩ := HN1.out.cells
  have hlk : ∀ d, ∃ cc : Int, (Instr.lookup 82 (.map mo) (.agg #[.int .i64 xo, .int .i64 xa, .int .i64 xb, .int .u32 xk]) true).run Try.prog (w1.drewN d) = .ok (.tuple #[.int .i64 cc, .bool (TM.fnd L (xo, xa, xb, xk)).isSome]) (w1.drewN d) ∧ ∀ i, TM.fnd L (xo, xa, xb, xk) = some i → cc = (i : Int) := fun d => HL.out (w1.drewN d) (HP1.out.map.keep (fun _ _ => rfl))
  have hlk2 : ∀ d, (Instr.lookup 82 (.map mo) (.agg #[.int .i64 xo, .int .i64 xa, .int .i64 xb, .int .u32 xk]) true).run Try.prog (w1.drewN d) = .ok (.tuple #[.int .i64 (i : Int), .bool true]) (w1.drewN d) := fun d => by
    obtain ⟨cc, h1, h2⟩ := hlk d
    rw [h1, h2 i HF.out, HF.out]; rfl
  clear hlk HL HF HP1 HN1
  obtain ⟨n, hn⟩ : ∃ n, L.length = n := ⟨_, rfl⟩
  rw [hn] at c0 ⊢
  clear hn
  go_wp2
  go_quiet (fail)
  go_wp2
  go_ret2
  exact ⟨rfl, bdrew HB1.out nq⟩
end Go.Proofs.Ytmjeoknndnbglaa.TB
