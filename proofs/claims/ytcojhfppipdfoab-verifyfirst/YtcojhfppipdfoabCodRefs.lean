/-
  The document's own answers on codes, as walks over the Go text.
-/
import Derived.Test.YtcojhfppipdfoabCodRef
namespace Go.Proofs.Ytcojhfppipdfoab.B
open Go.ChangeShapes Go.WideShapes Go.ChangeAt Go.RowKit Go.Maps
open Go.Sort hiding Below
set_option linter.unusedVariables false

theorem rest_kind : ∀ c ∈ M.codes, (c == 32) = false → (c == 128) = false → (c == 0) = false → (c == 96) = false → (c == 1) = false → (c == 97) = false → (c == 129) = false → (c == 2) = false → (c == 3) = false → (c == 5) = false → (c == 6) = false → (c == 22) = false → (c == 7) = false → (c == 135) = false → M.kind c = if c % 8 == 4 then 10 else 12 := by decide
set_option maxRecDepth 100000 in
set_option maxHeartbeats 4000000 in
theorem rkind_any (c : Int) (h0 : 0 ≤ c) (h1 : c < 65536) (w : World) :
    Calls Try.prog 7 #[.int .u16 c] w fun e w' => e = .returned (.int .i64 (M.kind c)) ∧ Below w.heap.size w w' := by
  by_cases hc : c ∈ M.codes
  · have hn := M.name_codes.2 hc
    have hq : ((M.name c) == []) = false := by simpa using hn
    have HC := hid hc
    clear hn hc
    go_enter Try.func7, Try.ntmps7
    go_wp2_with fail
    refine (rname_any _ _).mono ?_
    rintro e W ⟨rfl, hb⟩
    have HB := hid hb
    clear hb
    generalize M.name c = s at hq ⊢
    go_wp2
    all_goals go_ret
    all_goals first
      | (rename_i h; obtain rfl := eq_of_beq h; exact ⟨rfl, HB.out⟩)
      | (refine ⟨?_, HB.out⟩; rw [rest_kind c HC.out (by assumption) (by assumption) (by assumption) (by assumption) (by assumption) (by assumption) (by assumption) (by assumption) (by assumption) (by assumption) (by assumption) (by assumption) (by assumption) (by assumption)]; rename_i h; rw [h]; rfl)
  · have hn : M.name c = [] := by
      have := hc
      rw [← M.name_codes, ne_eq, Classical.not_not] at this
      exact this
    have HK := hid (M.kind_none hc)
    have hr := rname_any c w
    rw [hn] at hr
    clear hn hc
    go_enter Try.func7, Try.ntmps7
    go_wp2_with fail
    refine hr.mono ?_
    clear hr
    rintro e W ⟨rfl, hb⟩
    have HB := hid hb
    clear hb
    go_wp2
    go_ret
    exact ⟨by rw [HK.out]; rfl, HB.out⟩

theorem div8 {c : Int} (h0 : 0 ≤ c) (h1 : c < 65536) : (IntKind.u16.wrap (c.tdiv 8)).tmod 2 = c / 8 % 2 := by
  rw [Int.tdiv_eq_ediv_of_nonneg h0]
  have : IntKind.u16.wrap (c / 8) = c / 8 := by
    show (c / 8) % 65536 = c / 8
    omega
  rw [this, Int.tmod_eq_emod_of_nonneg (by omega)]
end Go.Proofs.Ytcojhfppipdfoab.B
