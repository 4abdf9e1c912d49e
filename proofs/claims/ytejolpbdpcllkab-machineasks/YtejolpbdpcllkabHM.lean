/-
  A question sends a filter to one side or the other: the walk of the statement MachineAsks.
-/
import Derived.Test.YtejolpbdpcllkabHS
import Derived.Test.YtejolpbdpcllkabH5
namespace Go.Proofs.Ytejolpbdpcllkab.M
def qa (a b o : Int) : List I := [(0, 0, 0, a), (o + 5, 0, 1, b), (6, 0, 0, 1), (6, 0, 0, 2)]
def qx (a b o : Int) : List I := [(0, 0, 0, a), (1, 0, 0, b), (o + 13, 1, 0, 0), (6, 0, 0, 2), (6, 0, 0, 1)]
def ops4 (o : Int) : Prop := o = 16 ∨ o = 32 ∨ o = 48 ∨ o = 64
theorem qa_right {a b o : Int} (h : ops4 o) : right (qa a b o) := by
  rcases h with rfl | rfl | rfl | rfl <;> exact right_of.1 (by kernel_rfl)
theorem qx_right {a b o : Int} (h : ops4 o) : right (qx a b o) := by
  rcases h with rfl | rfl | rfl | rfl <;> exact right_of.1 (by kernel_rfl)
theorem qa_ok {a b o : Int} (h : ops4 o) (ha : w32 a) (hb : w32 b) : ∀ i ∈ qa a b o, okI i := by
  intro i hi
  have z8 : (0 : Int) ≤ 0 ∧ (0 : Int) < 256 := by decide
  have o8 : (0 : Int) ≤ 1 ∧ (1 : Int) < 256 := by decide
  unfold ops4 at h
  simp only [qa, List.mem_cons, List.not_mem_nil, or_false] at hi
  rcases hi with rfl | rfl | rfl | rfl
  · exact ⟨by simp, z8, z8, ha⟩
  · exact ⟨by show 0 ≤ o + 5 ∧ o + 5 < 65536; omega, z8, o8, hb⟩
  · exact ⟨by simp, z8, z8, by show (0 : Int) ≤ 1 ∧ (1 : Int) < 4294967296; decide⟩
  · exact ⟨by simp, z8, z8, by show (0 : Int) ≤ 2 ∧ (2 : Int) < 4294967296; decide⟩
theorem qx_ok {a b o : Int} (h : ops4 o) (ha : w32 a) (hb : w32 b) : ∀ i ∈ qx a b o, okI i := by
  intro i hi
  have z8 : (0 : Int) ≤ 0 ∧ (0 : Int) < 256 := by decide
  have o8 : (0 : Int) ≤ 1 ∧ (1 : Int) < 256 := by decide
  unfold ops4 at h
  simp only [qx, List.mem_cons, List.not_mem_nil, or_false] at hi
  rcases hi with rfl | rfl | rfl | rfl | rfl
  · exact ⟨by simp, z8, z8, ha⟩
  · exact ⟨by simp, z8, z8, hb⟩
  · exact ⟨by show 0 ≤ o + 13 ∧ o + 13 < 65536; omega, o8, z8, by show (0 : Int) ≤ 0 ∧ (0 : Int) < 4294967296; decide⟩
  · exact ⟨by simp, z8, z8, by show (0 : Int) ≤ 2 ∧ (2 : Int) < 4294967296; decide⟩
  · exact ⟨by simp, z8, z8, by show (0 : Int) ≤ 1 ∧ (1 : Int) < 4294967296; decide⟩
theorem qa_run {a b o : Int} (r : List Int) (h : ops4 o) (q : Bool) (hq : WM.ask o a b = q) : (run (qa a b o) r).1.an = if q = true then 1 else 2 := by
  have e1 : kind (o + 5) = 12 := by rcases h with rfl | rfl | rfl | rfl <;> decide
  have e2 : opI (o + 5, 0, 1, b) = o := by
    unfold opI ops4 at *
    simp only
    omega
  have e3 : oth (o + 5, 0, 1, b) ⟨1, a, 0, R.zero, false, 0⟩ = b := by
    unfold oth ops4 at *
    rw [if_neg]
    simp only
    omega
  have h1 : stepI (o + 5, 0, 1, b) r ⟨1, a, 0, R.zero, false, 0⟩ = ⟨if q = true then 2 else 3, a, 0, R.zero, false, 0⟩ := by
    rw [st12 e1, e2, e3]
    simp only
    rw [hq]
    cases q <;> rfl
  show (go (qa a b o) r 4 s0).1.an = _
  rw [go_step (p := 0) (u := ⟨1, a, 0, R.zero, false, 0⟩) rfl rfl (by simp [qa]) (by kernel_rfl),
    go_step (p := 1) (u := ⟨if q = true then 2 else 3, a, 0, R.zero, false, 0⟩) rfl rfl (by simp [qa]) h1]
  cases q
  · rw [go_step (p := 3) (u := ⟨3, a, 0, R.zero, true, 2⟩) rfl rfl (by simp [qa]) (by kernel_rfl), go_ended _ _ _ rfl]; rfl
  · rw [go_step (p := 2) (u := ⟨2, a, 0, R.zero, true, 1⟩) rfl rfl (by simp [qa]) (by kernel_rfl), go_ended _ _ _ rfl]; rfl
theorem qx_run {a b o : Int} (r : List Int) (h : ops4 o) (q : Bool) (hq : WM.ask o a b = q) : (run (qx a b o) r).1.an = if q = true then 1 else 2 := by
  have e1 : kind (o + 13) = 12 := by rcases h with rfl | rfl | rfl | rfl <;> decide
  have e2 : opI (o + 13, 1, 0, 0) = o := by
    unfold opI ops4 at *
    simp only
    omega
  have e3 : oth (o + 13, 1, 0, 0) ⟨2, a, b, R.zero, false, 0⟩ = b := by
    unfold oth ops4 at *
    rw [if_pos]
    simp only
    omega
  have h1 : stepI (o + 13, 1, 0, 0) r ⟨2, a, b, R.zero, false, 0⟩ = ⟨if q = true then 4 else 3, a, b, R.zero, false, 0⟩ := by
    rw [st12 e1, e2, e3]
    simp only
    rw [hq]
    cases q <;> rfl
  show (go (qx a b o) r 5 s0).1.an = _
  rw [go_step (p := 0) (u := ⟨1, a, 0, R.zero, false, 0⟩) rfl rfl (by simp [qx]) (by kernel_rfl),
    go_step (p := 1) (u := ⟨2, a, b, R.zero, false, 0⟩) rfl rfl (by simp [qx]) (by kernel_rfl),
    go_step (p := 2) (u := ⟨if q = true then 4 else 3, a, b, R.zero, false, 0⟩) rfl rfl (by simp [qx]) h1]
  cases q
  · rw [go_step (p := 3) (u := ⟨3, a, b, R.zero, true, 2⟩) rfl rfl (by simp [qx]) (by kernel_rfl), go_ended _ _ _ rfl]; rfl
  · rw [go_step (p := 4) (u := ⟨4, a, b, R.zero, true, 1⟩) rfl rfl (by simp [qx]) (by kernel_rfl), go_ended _ _ _ rfl]; rfl
end Go.Proofs.Ytejolpbdpcllkab.M
namespace Go.Proofs.Ytejolpbdpcllkab.B
open Go.ChangeShapes Go.WideShapes Go.ChangeAt Go.RowKit
open Go.Sort hiding Below
set_option linter.unusedVariables false

set_option maxHeartbeats 3200000 in
set_option maxRecDepth 1000000 in
theorem asks_core (a b : Nat) (op : Int) (u j : Nat) (o : Int) (ha : a < 4294967296) (hb : b < 4294967296) (hu : IntKind.u64.wrap op = (u : Int)) (hut : (u : Int).tmod 4 = (j : Int)) (hj4 : j < 4) (ho : o = 16 * (1 + (j : Int))) (h4 : M.ops4 o) (w : World) :
    Calls Try.prog 4 #[.int .u32 (a : Int), .int .u32 (b : Int), .int .i64 op] w fun e w' => e = .returned (.bool true) ∧ Below w.heap.size w w' := by
  have huj : (u : Int) % 4 = (j : Int) := by rw [← hut, Int.tmod_eq_emod_of_nonneg (by omega)]
  have hwj : wrap64 (j : Int) = (j : Int) := by unfold wrap64; omega
  have hoj : 16 * (1 + (j : Int)) = o := ho.symm
  have hwo : IntKind.u16.wrap o = o := by rw [IntKind.wrap_u16]; omega
  obtain ⟨q, hq⟩ : ∃ q, WM.ask o (a : Int) (b : Int) = q := ⟨_, rfl⟩
  have hA : M.w32 (a : Int) := ⟨by omega, by omega⟩
  have hBb : M.w32 (b : Int) := ⟨by omega, by omega⟩
  have HC1 := hid (fun W g (h : Ly W g 0 (M.qa a b o)) => mrun_any g 0 4 4 (M.qa a b o) R.zero rfl (by omega) (M.qa_ok h4 hA hBb) okZ W h (M.qa_right h4))
  have HC2 := hid (fun W g (h : Ly W g 0 (M.qx a b o)) => mrun_any g 0 5 5 (M.qx a b o) R.zero rfl (by omega) (M.qx_ok h4 hA hBb) okZ W h (M.qx_right h4))
  rw [M.qa_run R.zero h4 q hq] at HC1
  rw [M.qx_run R.zero h4 q hq] at HC2
  have HC3 := hid (fun W => WB.rask_any o (a : Int) (b : Int) (by omega) (by omega) (by omega) (by omega) W)
  rw [hq] at HC3
  have h16 : (0 : Int) ≤ o ∧ o ≤ 64 := by unfold M.ops4 at h4; omega
  have HB := stp (hid (al w (.cells (i4s (M.qa a b o)).toArray 27))) (al _ (.cells (i4s (M.qx a b o)).toArray 27))
  have HL1 := hid ((ly_lit w (M.qa a b o) 4 rfl (by unfold maxLen; omega) (by omega)).below (al _ (.cells (i4s (M.qx a b o)).toArray 27)))
  have HL2 := hid (show Ly ((w.alloc (.cells (i4s (M.qa a b o)).toArray 27)).alloc (.cells (i4s (M.qx a b o)).toArray 27)) (w.heap.size + 1) 0 (M.qx a b o) by
    have := ly_lit (w.alloc (.cells (i4s (M.qa a b o)).toArray 27)) (M.qx a b o) 5 rfl (by unfold maxLen; omega) (by omega)
    rw [show (w.alloc (.cells (i4s (M.qa a b o)).toArray 27)).heap.size = w.heap.size + 1 by simp] at this
    exact this)
  clear hq ho hA hBb
  cases q
  all_goals
    go_enter Try.func4, Try.ntmps4
    go_wp2_with fail
    refine (HC1.out _ _ HL1.out).mono ?_
    rintro e w1 ⟨rfl, hb⟩
    replace HB := stp HB hb
    replace HL2 := hid (HL2.out.below hb)
    clear hb HL1 HC1
    go_wp2_with fail
    refine (HC2.out _ _ HL2.out).mono ?_
    rintro e w2 ⟨rfl, hb⟩
    replace HB := stp HB hb
    clear hb HL2 HC2
    go_wp2_with fail
    refine (HC3.out _).mono ?_
    rintro e w3 ⟨rfl, hb⟩
    replace HB := stp HB hb
    clear hb HC3
    go_wp2_with fail
    refine (awake_any _).mono ?_
    rintro e w4 ⟨rfl, hb⟩
    replace HB := stp HB hb
    clear hb
    go_wp2
    go_ret
    exact ⟨rfl, HB.out⟩
theorem asks_law (a b : Nat) (op : Int) (ha : a < 4294967296) (hb : b < 4294967296) (w : World) :
    Calls Try.prog 4 #[.int .u32 (a : Int), .int .u32 (b : Int), .int .i64 op] w fun e w' => e = .returned (.bool true) ∧ Below w.heap.size w w' := by
  obtain ⟨u, hu⟩ : ∃ u : Nat, IntKind.u64.wrap op = (u : Int) := ⟨(op % 18446744073709551616).toNat, by rw [IntKind.wrap_u64]; omega⟩
  have hut : (u : Int).tmod 4 = ((u % 4 : Nat) : Int) := by rw [Int.tmod_eq_emod_of_nonneg (by omega)]; omega
  have hj : u % 4 < 4 := by omega
  refine asks_core a b op u (u % 4) (16 * (1 + ((u % 4 : Nat) : Int))) ha hb hu hut hj rfl ?_ w
  unfold M.ops4
  omega
end Go.Proofs.Ytejolpbdpcllkab.B
