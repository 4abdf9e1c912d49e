/-
  The program's Values, Value, Uses, Size of layer 11, as walks over the Go text.
-/
import Derived.Test.YtkeigicobcjleabTC0
namespace Go.Proofs.Ytkeigicobcjleab.TB
open Go.ChangeShapes Go.WideShapes Go.ChangeAt Go.RowKit
open Go.Sort hiding Below
set_option linter.unusedVariables false
set_option maxRecDepth 100000

theorem cck : CkOk := fun A n cap L hln hn ok W hl p e hc => ccheck A n cap L hln hn ok W hl p e hc
theorem inB_nil (L : List TM.N) : inB L [] := fun x hx => by cases hx
set_option maxHeartbeats 1600000 in
theorem cvs : VsOk := by
  intro A n cap L r hln hL ok hk w hl
  have hX := RB.lcf_eq
  have hsz16 := RB.enc_size hk.1
  have HRc := hid (RB.Rec.new w r hk.1)
  have HB := hid (al w (.cells (RB.enc r) 24))
  have HA := hid (casked A n cap L hln ok hL none 0 0 [] rfl (by omega) 0 (.inl ⟨inB_nil L, rfl⟩) _ (hl.below HB.out) (.inl rfl))
  have HV := hid (fun W (h : LiesN W A L) => cvalues A n cap L hln hL (TM.val L r) ok r hk W h (fun j _ => rfl))
  have HL := hid hl
  clear hln hL ok hk hl
  go_enter Try.func32, Try.ntmps32
  go_wp2_with fail
  refine HA.out.mono ?_
  rintro e w1 ⟨rfl, hb⟩
  have hld := (HRc.out.below hb (by simp)).load
  have HB1 := hid (HB.out.trans (hb.mono HB.out.size))
  clear hb HA HRc HB
  go_wp2_with fail
  refine (HV.out _ (HL.out.below HB1.out)).mono ?_
  rintro e w2 ⟨g, rfl, hR, hb⟩
  have HZ := hid (And.intro hR.o (HB1.out.trans (hb.mono HB1.out.size)))
  clear hb hR HB1 HV hld
  go_wp2
  go_ret2
  exact ⟨some ⟨g, 0, none⟩, n, rfl, HZ.out⟩
set_option maxHeartbeats 1600000 in
theorem cvs_bad : VsBad := by
  intro A n cap L r hln hn hrb ok hk w hl
  have hsz16 := RB.enc_size hk.1
  have HB := hid (al w (.cells (RB.enc r) 24))
  have HA := hid (casked_bad A n cap L hln hn ok hrb (.slice none 0 0) _ (hl.below HB.out))
  clear hln hn hrb ok hk hl
  go_enter Try.func32, Try.ntmps32
  go_wp2_with fail
  refine HA.out.mono ?_
  rintro e w1 ⟨rfl, hb⟩
  have HB1 := hid (HB.out.trans (hb.mono HB.out.size))
  clear hb HA HB
  go_wp2
  go_ret2
  exact ⟨none, 0, rfl, HB1.out⟩
theorem lies_one (w : World) (i : Int) : LiesI (w.alloc (.cells #[.int .i64 i] 3)) (some ⟨w.heap.size, 0, none⟩) [i] := by
  refine .inr ⟨_, 0, rfl, by simp, fun j hj => ?_⟩
  have : j = 0 := by simpa using hj
  subst this
  exact cell_lit w [.int .i64 i] 3 0
/-- what is asked of a row and one place -/
theorem casked_at (A : Option Addr) (n cap : Nat) (L : List TM.N) (i : Int) (hln : L.length = n) (hn : n ≤ 9223372036854775807) (ok : ∀ x ∈ L, TM.okN x) (B : Option Addr) (c : Nat) (w : World) (hl : LiesN w A L) (hR : LiesI w B [i]) :
    Calls Try.prog 43 #[.slice A n cap, .slice B 1 c] w fun e w' => e = .returned (.int .i64 (atE L i)) ∧ Below w.heap.size w w' := by
  cases hrb : TM.rowB L with
  | false =>
    rw [show atE L i = 3 by unfold atE; rw [if_pos hrb]]
    exact casked_bad A n cap L hln hn ok hrb _ w hl
  | true =>
    refine casked A n cap L hln ok (TM.row_iff.1 hrb) B 1 c [i] rfl (by omega) _ ?_ w hl hR
    have hin : inB L [i] ↔ (0 ≤ i ∧ i < (L.length : Int)) := by
      unfold inB; simp
    by_cases h : 0 ≤ i ∧ i < (L.length : Int)
    · exact .inl ⟨hin.2 h, by unfold atE; rw [if_neg (by rw [hrb]; simp), if_neg (by omega)]⟩
    · exact .inr ⟨fun h2 => h (hin.1 h2), by unfold atE; rw [if_neg (by rw [hrb]; simp), if_pos (by omega)]⟩
theorem atE_0 {L : List TM.N} {i : Int} (h : atE L i = 0) : TM.Row L ∧ ∃ k : Nat, i = k ∧ k < L.length := by
  unfold atE at h
  split at h
  · omega
  · split at h
    · omega
    · rename_i h1 h2
      exact ⟨TM.row_iff.1 (by simpa using h1), i.toNat, by omega, by omega⟩
end Go.Proofs.Ytkeigicobcjleab.TB
