/-
  The program's pool of layer 11: Nodes, Put of what is there, as walks over the Go text.
-/
import Derived.Test.YtmjeoknndnbglaaTerCodL
import Derived.WalkSpells
namespace Go.Proofs.Ytmjeoknndnbglaa.TB
open Go.ChangeShapes Go.WideShapes Go.ChangeAt Go.RowKit Go.Maps
open Go.Sort hiding Below
set_option linter.unusedVariables false
set_option maxRecDepth 100000

theorem eqNil (w : World) (a : Option Addr) (n c : Nat) : (binOp .eql 22 (.slice a n c) (.slice none 0 0)).run Try.prog w = .ok (.bool a.isNone) w := by
  simp only [binOp]
  simp [Op.equal, Op.maxDepth, Lib.run_equalIn_slice_nil w 9999 22 56 a n c 0 0 Try.underlying22]

set_option maxHeartbeats 1600000 in
theorem cclone0 (w : World) : Calls Try.prog 42 #[.slice none 0 0] w fun e w' => e = .returned (.slice none 0 0) ∧ Below w.heap.size w w' := by
  have HB := hid (Below.refl w.heap.size w)
  have hqn := eqNil
  go_enter Try.func42, Try.ntmps42
  go_wp2
  go_ret
  exact ⟨rfl, HB.out⟩
set_option maxHeartbeats 1600000 in
theorem cclone (A : Addr) (n cap : Nat) (L : List TM.N) (hln : L.length = n) (hn : n ≤ 65536) (w : World) (hl : LiesN w (some A) L) :
    Calls Try.prog 42 #[.slice (some A) n cap] w fun e w' => ∃ a c, e = .returned (.slice a n c) ∧ n ≤ c ∧ LiesN w' a L ∧ Below w.heap.size w w' := by
  have HL := hid (hl.below (al w (.cells #[] 56)))
  have HB := hid (al w (.cells #[] 56))
  have hqn := eqNil
  clear hl
  go_enter Try.func42, Try.ntmps42
  go_wp2_with (at_builtin; refine wpList_append_nodes (by rfl) _ _ rfl w.heap.size 0 n 0 cap (some ⟨w.heap.size, 0, none⟩) (some A) [] L rfl (own_new w) rfl HL.out hln (by omega) (by simp) ?_)
  intro a' cap' w2 hown hb
  try simp only [Nat.zero_add, List.nil_append] at hown
  try simp only [Nat.zero_add]
  have HZ := hid (show n ≤ cap' ∧ LiesN w2 a' L ∧ Below w.heap.size w w2 from ⟨hown.cap, hown.lies, HB.out.trans hb⟩)
  clear hown hb HB HL
  go_wp2
  go_ret
  exact ⟨a', cap', rfl, HZ.out⟩

theorem own_none {W : World} {base n c : Nat} {L : List TM.N} (h : OwnN W base none n c L) : n = 0 ∧ c = 0 ∧ L = [] := by
  have hl := h.len
  rcases h.own.2 with ⟨h1, h2⟩ | ⟨g, c', cur, h1, _⟩
  · injection h1 with _ e2 e3
    have hn : n = 0 := by omega
    subst hn
    exact ⟨rfl, by omega, List.eq_nil_of_length_eq_zero hl⟩
  · injection h1 with h1; cases h1
set_option maxHeartbeats 1600000 in
theorem pl_all' (W : World) (F : Nat → Prop) (v : Value) (L : List TM.N) (h : Pl W F v L) :
    Calls Try.prog 28 #[v] W fun e w' => ∃ a c, e = .returned (.slice a L.length c) ∧ L.length ≤ c ∧ LiesN w' a L ∧ Below W.heap.size W w' := by
  obtain ⟨pb, pa, pc, mo, rfl, rfl, hP⟩ := h
  obtain ⟨c0, c1, cf⟩ := hP.cells
  have hlen := hP.len
  cases pa with
  | none =>
    obtain ⟨e1, e2, e3⟩ := own_none hP.own
    subst e2 e3
    have HC := hid (cclone0 W)
    clear hP e1 hlen c1 cf
    simp only [List.length_nil] at c0 ⊢
    go_enter Try.func28, Try.ntmps28
    go_wp2_with (go_at_call 42; refine HC.out.mono ?_; rintro e w1 ⟨rfl, hb⟩; have HB := hid hb; clear hb HC)
    go_ret
    exact ⟨none, 0, rfl, Nat.le_refl _, .inl rfl, HB.out⟩
  | some A =>
    have HC := hid (cclone A L.length pc L rfl hlen W hP.own.lies)
    obtain ⟨n, hn⟩ : ∃ n, L.length = n := ⟨_, rfl⟩
    rw [hn] at c0 HC ⊢
    clear hP hlen c1 cf hn
    go_enter Try.func28, Try.ntmps28
    go_wp2_with (go_at_call 42; refine HC.out.mono ?_; rintro e w1 ⟨a, c, rfl, hb⟩; have HB := hid hb; clear hb HC)
    go_ret
    exact ⟨a, c, rfl, HB.out⟩
theorem pl_all (W : World) (F : Nat → Prop) (v : Value) (L : List TM.N) (h : Pl W F v L) :
    Calls Try.prog 28 #[v] W fun e w' => ∃ a c, e = .returned (.slice a L.length c) ∧ LiesN w' a L ∧ Below W.heap.size W w' :=
  (pl_all' W F v L h).mono fun _ _ ⟨a, c, h1, _, h2⟩ => ⟨a, c, h1, h2⟩

/-- what a look-up in a pool's map tells -/
theorem Mp.look {W : World} {mo : Option Nat} {L : List TM.N} (h : Mp W mo L) {x : TM.N} (ok : TM.okN x) : ∃ c : Int, (Instr.lookup 82 (.map mo) (nv x) true).run Try.prog W = .ok (.tuple #[.int .i64 c, .bool (TM.fnd L x).isSome]) W ∧ ∀ i, TM.fnd L x = some i → c = (i : Int) := by
  rcases h with ⟨rfl, rfl⟩ | ⟨mb, rfl, D, hm, hD⟩
  · refine ⟨0, ?_, fun i hi => ?_⟩
    · exact Maps.look_nil (w := W) true lawN Try.underlying82 (zeroi W) (keyN ok)
    · have := (TM.fnd_some.1 hi).1; simp at this
  · obtain ⟨v, ps, hrun, hv⟩ := hm.look_ok lawN Try.underlying82 (zeroi W) (plainElem_int Try.underlying3 (by decide)) (keyN ok)
    obtain ⟨c, rfl, hc, hwc⟩ := plainElem_int_inv Try.underlying3 hv
    have hc := congrArg Prod.fst hc
    obtain ⟨h1, h2⟩ := hD x ok
    cases e : TM.fnd L x with
    | some i =>
      obtain ⟨h3, h4⟩ := h1 i e
      refine ⟨c, by rw [hrun, h3]; rfl, fun j hj => ?_⟩
      injection hj with hj
      have hc2 : DataW.lit (H := Unit) (.int .i64 (i : Int)) = .lit (.int .i64 c) := by rw [← h4]; exact hc
      injection hc2 with hc2
      injection hc2 with _ hc2
      rw [← hc2, hj]
    | none =>
      refine ⟨c, by rw [hrun, h2 e]; rfl, fun j hj => by cases hj⟩
end Go.Proofs.Ytmjeoknndnbglaa.TB
