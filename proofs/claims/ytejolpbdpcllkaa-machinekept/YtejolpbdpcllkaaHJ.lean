/-
  What is kept in a scratch word is read as it was: the walk of the statement MachineKept.
-/
import Derived.Test.YtejolpbdpcllkaaHS
import Derived.Test.YtejolpbdpcllkaaH9
namespace Go.Proofs.Ytejolpbdpcllkaa.M
def qk (a k : Int) (w v : Nat) (c : Int) : List I := [(0, 0, 0, a), (2, 0, 0, w), (c, 0, 0, k), (1, 0, 0, k), (3, 0, 0, v), (96, 0, 0, w), (22, 0, 0, 0)]
def kc (c : Int) : Prop := c = 4 ∨ c = 20 ∨ c = 36 ∨ c = 68 ∨ c = 84 ∨ c = 132 ∨ c = 164
theorem qk_right {a k c : Int} {w v : Nat} (hw : w < 16) (hv : v = (w + 1) % 16) (hc : kc c) : right (qk a k w v c) := by
  have hw16 : w = 0 ∨ w = 1 ∨ w = 2 ∨ w = 3 ∨ w = 4 ∨ w = 5 ∨ w = 6 ∨ w = 7 ∨ w = 8 ∨ w = 9 ∨ w = 10 ∨ w = 11 ∨ w = 12 ∨ w = 13 ∨ w = 14 ∨ w = 15 := by omega
  subst hv
  rcases hc with rfl | rfl | rfl | rfl | rfl | rfl | rfl
  all_goals (rcases hw16 with rfl | rfl | rfl | rfl | rfl | rfl | rfl | rfl | rfl | rfl | rfl | rfl | rfl | rfl | rfl | rfl <;> exact right_of.1 (by kernel_rfl))
theorem qk_ok {a k c : Int} {w v : Nat} (ha : w32 a) (hk : w32 k) (hw : w < 16) (hv : v < 16) (hc : kc c) : ∀ i ∈ qk a k w v c, okI i := by
  intro i hi
  have z : (0 : Int) ≤ 0 ∧ (0 : Int) < 4294967296 := by decide
  have z8 : (0 : Int) ≤ 0 ∧ (0 : Int) < 256 := by decide
  simp only [qk, List.mem_cons, List.not_mem_nil, or_false] at hi
  rcases hi with rfl | rfl | rfl | rfl | rfl | rfl | rfl
  · exact ⟨by simp, z8, z8, ha⟩
  · exact ⟨by simp, z8, z8, by show (0 : Int) ≤ (w : Int) ∧ (w : Int) < 4294967296; omega⟩
  · exact ⟨by show 0 ≤ c ∧ c < 65536; unfold kc at hc; omega, z8, z8, hk⟩
  · exact ⟨by simp, z8, z8, hk⟩
  · exact ⟨by simp, z8, z8, by show (0 : Int) ≤ (v : Int) ∧ (v : Int) < 4294967296; omega⟩
  · exact ⟨by simp, z8, z8, by show (0 : Int) ≤ (w : Int) ∧ (w : Int) < 4294967296; omega⟩
  · exact ⟨by simp, z8, z8, z⟩
theorem set_far (l : List Int) (w v : Nat) (x : Int) (h : v ≠ w) : R.at_ (l.set v x) w = R.at_ l w := by
  unfold R.at_
  rw [List.getD_eq_getElem?_getD, List.getElem?_set_ne h, ← List.getD_eq_getElem?_getD]
theorem set_same (l : List Int) (w : Nat) (x : Int) (h : w < l.length) : R.at_ (l.set w x) w = x := by
  unfold R.at_
  rw [List.getD_eq_getElem?_getD, List.getElem?_set_self h]; rfl
theorem qk_run {a k c : Int} {w v : Nat} (r : List Int) (hw : w < 16) (hv : v = (w + 1) % 16) (hc : kc c) : (run (qk a k w v c) r).1.an = a := by
  have hne : v ≠ w := by omega
  obtain ⟨A, hA⟩ : ∃ A, WM.val (opI (c, 0, 0, k)) a k = A := ⟨_, rfl⟩
  have h2 : stepI (c, 0, 0, k) r ⟨2, a, 0, R.zero.set w a, false, 0⟩ = ⟨3, A, 0, R.zero.set w a, false, 0⟩ := by
    have e2 : oth (c, 0, 0, k) ⟨2, a, 0, R.zero.set w a, false, 0⟩ = k := by
      unfold oth
      rw [if_neg]
      simp only
      unfold kc at hc
      omega
    have e1 : kind c = 10 := by rcases hc with rfl | rfl | rfl | rfl | rfl | rfl | rfl <;> decide
    have e3 : WM.ok (opI (c, 0, 0, k)) k = true := by rcases hc with rfl | rfl | rfl | rfl | rfl | rfl | rfl <;> rfl
    rw [st10 e1, e2, if_pos e3, hA]
    rfl
  have h5 : stepI (96, 0, 0, (w : Int)) r ⟨5, A, k, (R.zero.set w a).set v k, false, 0⟩ = ⟨6, a, k, (R.zero.set w a).set v k, false, 0⟩ := by
    rw [st4 (by decide), Int.toNat_natCast]
    show S.mk _ (R.at_ ((R.zero.set w a).set v k) w) _ _ _ _ = _
    rw [set_far _ _ _ _ hne, set_same _ _ _ (by show w < 16; exact hw)]
    rfl
  have : run (qk a k w v c) r = (⟨6, a, k, (R.zero.set w a).set v k, true, a⟩, [0, 1, 2, 3, 4, 5, 6]) := by
    show go (qk a k w v c) r 7 s0 = _
    rw [go_step (p := 0) (u := ⟨1, a, 0, R.zero, false, 0⟩) rfl rfl (by simp [qk]) (by kernel_rfl),
      go_step (p := 1) (u := ⟨2, a, 0, R.zero.set w a, false, 0⟩) rfl rfl (by simp [qk]) (by kernel_rfl),
      go_step (p := 2) (u := ⟨3, A, 0, R.zero.set w a, false, 0⟩) rfl rfl (by simp [qk]) h2,
      go_step (p := 3) (u := ⟨4, A, k, R.zero.set w a, false, 0⟩) rfl rfl (by simp [qk]) (by kernel_rfl),
      go_step (p := 4) (u := ⟨5, A, k, (R.zero.set w a).set v k, false, 0⟩) rfl rfl (by simp [qk]) (by kernel_rfl),
      go_step (p := 5) (u := ⟨6, a, k, (R.zero.set w a).set v k, false, 0⟩) rfl rfl (by simp [qk]) h5,
      go_step (p := 6) (u := ⟨6, a, k, (R.zero.set w a).set v k, true, a⟩) rfl rfl (by simp [qk]) (by kernel_rfl), go]
  rw [this]
/-- the codes that are drawn from -/
def kd (j : Nat) : Int := [4, 20, 36, 68, 84, 132, 164].getD j 0
theorem kd_kc {j : Nat} (h : j < 7) : kc (kd j) := by
  have : j = 0 ∨ j = 1 ∨ j = 2 ∨ j = 3 ∨ j = 4 ∨ j = 5 ∨ j = 6 := by omega
  rcases this with rfl | rfl | rfl | rfl | rfl | rfl | rfl <;> unfold kc kd <;> decide
end Go.Proofs.Ytejolpbdpcllkaa.M
namespace Go.Proofs.Ytejolpbdpcllkaa.B
open Go.ChangeShapes Go.WideShapes Go.ChangeAt Go.RowKit
open Go.Sort hiding Below
set_option linter.unusedVariables false
def kcs : Array Value := #[.int .u16 4, .int .u16 20, .int .u16 36, .int .u16 68, .int .u16 84, .int .u16 132, .int .u16 164]
theorem kcs_lit : (#[.int .u16 4, .int .u16 20, .int .u16 36, .int .u16 68, .int .u16 84, .int .u16 132, .int .u16 164] : Array Value) = kcs := rfl
theorem kcs_cell (w : World) (t : TypeId) (j : Nat) (h : j < 7) : (w.alloc (.cells kcs t)).cell? ⟨w.heap.size, j, none⟩ = some (.int .u16 (M.kd j)) := by
  rw [cell_of_row _ _ _ kcs t (0, 0) (heap_alloc_last w _)]
  have : j = 0 ∨ j = 1 ∨ j = 2 ∨ j = 3 ∨ j = 4 ∨ j = 5 ∨ j = 6 := by omega
  rcases this with rfl | rfl | rfl | rfl | rfl | rfl | rfl <;> rfl

set_option maxHeartbeats 3200000 in
set_option maxRecDepth 1000000 in
theorem kept_law (x a k : Nat) (op : Int) (hx : x < 4294967296) (ha : a < 4294967296) (hk : k < 4294967296) (w : World) :
    Calls Try.prog 8 #[.agg #[.int .u32 (x : Int), .int .u32 (a : Int), .int .u32 (k : Int)], .int .i64 op] w fun e w' => e = .returned (.bool true) ∧ Below w.heap.size w w' := by
  obtain ⟨u, hu⟩ : ∃ u : Nat, IntKind.u64.wrap op = (u : Int) := ⟨(op % 18446744073709551616).toNat, by rw [IntKind.wrap_u64]; omega⟩
  obtain ⟨j, hj⟩ : ∃ j : Nat, u % 7 = j := ⟨_, rfl⟩
  have hj7 : j < 7 := by omega
  have huj : (u : Int) % 7 = (j : Int) := by omega
  have hut : (u : Int).tmod 7 = (j : Int) := by rw [Int.tmod_eq_emod_of_nonneg (by omega)]; exact huj
  have hwj : wrap64 (j : Int) = (j : Int) := by unfold wrap64; omega
  have hj8 : (j : Int) < 7 := by omega
  obtain ⟨y, hy⟩ : ∃ y : Nat, x % 16 = y := ⟨_, rfl⟩
  have hy16 : y < 16 := by omega
  have hy17 : (y : Int) < 16 := by omega
  have hxy : (x : Int) % 16 = (y : Int) := by omega
  obtain ⟨v, hv⟩ : ∃ v : Nat, v = (y + 1) % 16 := ⟨_, rfl⟩
  have hyv : ((y : Int) + 1) % 16 = (v : Int) := by omega
  have hkl := kcs_lit
  have HB := hid (bdrew (al w (.cells #[.int .u32 (x : Int), .int .u32 (a : Int), .int .u32 (k : Int)] 54)))
  have HC := hid (fun W g (h : Ly W g 0 (M.qk a k y v (M.kd j))) => mrun_any g 0 7 7 (M.qk a k y v (M.kd j)) R.zero rfl (by omega) (M.qk_ok ⟨by omega, by omega⟩ ⟨by omega, by omega⟩ hy16 (by omega) (M.kd_kc hj7)) okZ W h (M.qk_right hy16 hv (M.kd_kc hj7)))
  have HV := hid (M.qk_run (a := (a : Int)) (k := (k : Int)) R.zero hy16 hv (M.kd_kc hj7))
  have HJ := hid hj7
  clear hj hy hv hj7
  go_enter Try.func8, Try.ntmps8
  go_wp2
  go_quiet (fail)
  replace HB := hid (HB.out nq)
  obtain ⟨W1, hW1⟩ : ∃ W1, (w.alloc (.cells #[.int .u32 (x : Int), .int .u32 (a : Int), .int .u32 (k : Int)] 54)).drewN nq = W1 := ⟨_, rfl⟩
  rw [hW1] at HB ⊢
  clear hW1
  have hc := kcs_cell W1 49 j HJ.out
  obtain ⟨c, hcc⟩ : ∃ c, M.kd j = c := ⟨_, rfl⟩
  rw [hcc] at hc HC HV
  clear hcc
  have HLy := hid (show Ly ((W1.alloc (.cells kcs 49)).alloc (.cells (i4s (M.qk a k y v c)).toArray 51)) (W1.heap.size + 1) 0 (M.qk a k y v c) by
    have := ly_lit (W1.alloc (.cells kcs 49)) (M.qk a k y v c) 7 rfl (by unfold maxLen; omega) (by omega)
    rw [show (W1.alloc (.cells kcs 49)).heap.size = W1.heap.size + 1 by simp] at this
    exact this)
  replace HB := stp (stp HB (al W1 (.cells kcs 49))) (al _ (.cells (i4s (M.qk a k y v c)).toArray 51))
  go_wp2_with fail
  refine (HC.out _ _ HLy.out).mono ?_
  rintro e w2 ⟨rfl, hb⟩
  rw [HV.out]
  replace HB := stp HB hb
  clear hb HC HLy hc
  go_wp2_with fail
  refine (awake_any _).mono ?_
  rintro e w3 ⟨rfl, hb⟩
  replace HB := stp HB hb
  clear hb
  go_wp2
  go_ret
  exact ⟨rfl, HB.out⟩
/-- three words, as they come in -/
theorem cells3 : Try.prog.cellsOf 54 = 3 := by kernel_rfl
theorem cells3u : Try.prog.cellsOf 23 = 1 := by kernel_rfl
theorem arg_three {H : Type} {ev : TypeId × Value → H} {W : World} {base : Nat} {spare : Nat → Bool} {held : Bool} {v : Value} {d : DataW H} {p : List MemPlace} {b0 : Nat} {r : Reach}
    (hv : Value.okWide Try.prog W r b0 54 v) (h : DataW.Trod ev Try.prog W base spare held 54 v d p) :
    ∃ x y z : Int, v = .agg #[.int .u32 x, .int .u32 y, .int .u32 z] ∧ p = [] ∧ (0 ≤ x ∧ x < 4294967296) ∧ (0 ≤ y ∧ y < 4294967296) ∧ (0 ≤ z ∧ z < 4294967296) := by
  obtain ⟨cs, rfl, hsz, _⟩ : ∃ cs, v = .agg cs ∧ cs.size = Try.prog.cellsOf 54 ∧ Row.okWide Try.prog W r b0 54 cs := by
    simpa [Value.okWide, Try.underlying54] using hv
  rw [cells3] at hsz
  obtain ⟨fuel, hf⟩ := h
  obtain ⟨xs, m, _, hx, hl, hxl, hel⟩ := DataW.trod_array Try.underlying54 hf
  simp only [Value.cells] at hl hel
  have key : ∀ i, i < 3 → ∃ n : Int, cs[i]? = some (.int .u32 n) ∧ (∃ y, xs[i]? = some y ∧ y.2 = []) ∧ (0 ≤ n ∧ n < 4294967296) := by
    intro i hi
    have h1 := hel i hi
    obtain ⟨y, hy⟩ : ∃ y, xs[i]? = some y := ⟨_, List.getElem?_eq_getElem (by omega)⟩
    rw [hy] at h1
    obtain ⟨n, e1, e2, wf⟩ := DataW.trod_int Try.underlying23 h1
    rw [cells3u, Nat.mul_one] at e1
    refine ⟨n, ?_, ⟨y, hy, by rw [e2]⟩, by have := bounds_u32 wf; omega⟩
    have := congrArg (fun l => l[0]?) e1
    simpa [List.getElem?_take, List.getElem?_drop] using this
  obtain ⟨x, ex, ⟨x', hx1, hx2⟩, bx⟩ := key 0 (by omega)
  obtain ⟨y, ey, ⟨y', hy1, hy2⟩, b2⟩ := key 1 (by omega)
  obtain ⟨z, ez, ⟨z', hz1, hz2⟩, bz⟩ := key 2 (by omega)
  refine ⟨x, y, z, ?_, ?_, bx, b2, bz⟩
  · congr 1
    apply Array.ext_getElem?
    intro i
    by_cases hi : i < 3
    · have : i = 0 ∨ i = 1 ∨ i = 2 := by omega
      rcases this with rfl | rfl | rfl
      · rw [ex]; rfl
      · rw [ey]; rfl
      · rw [ez]; rfl
    · rw [Array.getElem?_eq_none (by omega), Array.getElem?_eq_none (by show 3 ≤ i; omega)]
  · have hx' := congrArg Prod.snd hx
    simp only at hx'
    rw [hx']
    simp only [List.flatMap_eq_nil_iff]
    intro q hq
    obtain ⟨i, hi, rfl⟩ := List.getElem_of_mem hq
    obtain ⟨_, _, ⟨s, hs1, hs2⟩, _⟩ := key i (by omega)
    rw [List.getElem?_eq_getElem hi] at hs1
    simp only [Option.some.injEq] at hs1
    rw [hs1]; exact hs2
end Go.Proofs.Ytejolpbdpcllkaa.B
