/-
  A word of the record, loaded, kept and returned; the length: the walk of the statement MachineLoads.
-/
import Derived.Test.YtejolpbdpcllkabHS
namespace Go.Proofs.Ytejolpbdpcllkab.M
def ql (d m : Nat) : List I := [(32, 0, 0, 4 * (d : Int)), (2, 0, 0, m), (0, 0, 0, 0), (97, 0, 0, m), (135, 0, 0, 0), (22, 0, 0, 0)]
def ql2 : List I := [(128, 0, 0, 0), (22, 0, 0, 0)]
def ql3 : List I := [(129, 0, 0, 0), (135, 0, 0, 0), (22, 0, 0, 0)]
theorem ql_right {d m : Nat} (hd : d < 16) (hm : m < 16) : right (ql d m) := by
  have hd16 : d = 0 ∨ d = 1 ∨ d = 2 ∨ d = 3 ∨ d = 4 ∨ d = 5 ∨ d = 6 ∨ d = 7 ∨ d = 8 ∨ d = 9 ∨ d = 10 ∨ d = 11 ∨ d = 12 ∨ d = 13 ∨ d = 14 ∨ d = 15 := by omega
  have hm16 : m = 0 ∨ m = 1 ∨ m = 2 ∨ m = 3 ∨ m = 4 ∨ m = 5 ∨ m = 6 ∨ m = 7 ∨ m = 8 ∨ m = 9 ∨ m = 10 ∨ m = 11 ∨ m = 12 ∨ m = 13 ∨ m = 14 ∨ m = 15 := by omega
  rcases hd16 with rfl | rfl | rfl | rfl | rfl | rfl | rfl | rfl | rfl | rfl | rfl | rfl | rfl | rfl | rfl | rfl
  all_goals (rcases hm16 with rfl | rfl | rfl | rfl | rfl | rfl | rfl | rfl | rfl | rfl | rfl | rfl | rfl | rfl | rfl | rfl <;> exact right_of.1 (by kernel_rfl))
theorem ql2_right : right ql2 := right_of.1 (by kernel_rfl)
theorem ql3_right : right ql3 := right_of.1 (by kernel_rfl)
theorem ql_ok {d m : Nat} (hd : d < 16) (hm : m < 16) : ∀ i ∈ ql d m, okI i := by
  intro i hi
  have z : (0 : Int) ≤ 0 ∧ (0 : Int) < 4294967296 := by decide
  have z8 : (0 : Int) ≤ 0 ∧ (0 : Int) < 256 := by decide
  simp only [ql, List.mem_cons, List.not_mem_nil, or_false] at hi
  rcases hi with rfl | rfl | rfl | rfl | rfl | rfl
  · exact ⟨by simp, z8, z8, by show (0 : Int) ≤ 4 * (d : Int) ∧ 4 * (d : Int) < 4294967296; omega⟩
  · exact ⟨by simp, z8, z8, by show (0 : Int) ≤ (m : Int) ∧ (m : Int) < 4294967296; omega⟩
  · exact ⟨by simp, z8, z8, z⟩
  · exact ⟨by simp, z8, z8, by show (0 : Int) ≤ (m : Int) ∧ (m : Int) < 4294967296; omega⟩
  · exact ⟨by simp, z8, z8, z⟩
  · exact ⟨by simp, z8, z8, z⟩
theorem ql2_ok : ∀ i ∈ ql2, okI i := by unfold okI; decide
theorem ql3_ok : ∀ i ∈ ql3, okI i := by unfold okI; decide
theorem ql_run {d m : Nat} (r : List Int) (hd : d < 16) (hm : m < 16) : (run (ql d m) r).1.an = R.at_ r d := by
  obtain ⟨v, hv⟩ : ∃ v, R.at_ r d = v := ⟨_, rfl⟩
  have h0 : stepI (32, 0, 0, 4 * (d : Int)) r s0 = ⟨1, v, 0, R.zero, false, 0⟩ := by
    rw [st1 (by decide), show (4 * (d : Int) / 4).toNat = d by omega, hv]
    rfl
  have h3 : stepI (97, 0, 0, (m : Int)) r ⟨3, 0, 0, R.zero.set m v, false, 0⟩ = ⟨4, 0, v, R.zero.set m v, false, 0⟩ := by
    rw [st6 (by decide), Int.toNat_natCast]
    show S.mk _ _ (R.at_ (R.zero.set m v) m) _ _ _ = _
    have : R.at_ (R.zero.set m v) m = v := by
      unfold R.at_
      rw [List.getD_eq_getElem?_getD, List.getElem?_set_self (by show m < 16; exact hm)]; rfl
    rw [this]
    rfl
  have : run (ql d m) r = (⟨5, v, v, R.zero.set m v, true, v⟩, [0, 1, 2, 3, 4, 5]) := by
    show go (ql d m) r 6 s0 = _
    rw [go_step (p := 0) (u := ⟨1, v, 0, R.zero, false, 0⟩) rfl rfl (by simp [ql]) h0,
      go_step (p := 1) (u := ⟨2, v, 0, R.zero.set m v, false, 0⟩) rfl rfl (by simp [ql]) (by kernel_rfl),
      go_step (p := 2) (u := ⟨3, 0, 0, R.zero.set m v, false, 0⟩) rfl rfl (by simp [ql]) (by kernel_rfl),
      go_step (p := 3) (u := ⟨4, 0, v, R.zero.set m v, false, 0⟩) rfl rfl (by simp [ql]) h3,
      go_step (p := 4) (u := ⟨5, v, v, R.zero.set m v, false, 0⟩) rfl rfl (by simp [ql]) (by kernel_rfl),
      go_step (p := 5) (u := ⟨5, v, v, R.zero.set m v, true, v⟩) rfl rfl (by simp [ql]) (by kernel_rfl), go]
  rw [this, hv]
theorem ql2_run (r : List Int) : (run ql2 r).1.an = 64 := by kernel_rfl
theorem ql3_run (r : List Int) : (run ql3 r).1.an = 64 := by kernel_rfl
end Go.Proofs.Ytejolpbdpcllkab.M
namespace Go.Proofs.Ytejolpbdpcllkab.B
open Go.ChangeShapes Go.WideShapes Go.ChangeAt Go.RowKit
open Go.Sort hiding Below
set_option linter.unusedVariables false

set_option maxHeartbeats 3200000 in
set_option maxRecDepth 1000000 in
theorem loads_law (r : List Int) (hr : R.okR r) (x y : Nat) (hx : x < 4294967296) (hy : y < 4294967296) (w : World) :
    Calls Try.prog 3 #[.agg (RB.enc r), .int .u32 (x : Int), .int .u32 (y : Int)] w fun e w' => e = .returned (.bool true) ∧ Below w.heap.size w w' := by
  obtain ⟨d, hd⟩ : ∃ d : Nat, x % 16 = d := ⟨_, rfl⟩
  obtain ⟨m, hm⟩ : ∃ m : Nat, y % 16 = m := ⟨_, rfl⟩
  have hd16 : d < 16 := by omega
  have hm16 : m < 16 := by omega
  have hd17 : (d : Int) < 16 := by omega
  have hxd : (x : Int) % 16 = (d : Int) := by omega
  have hym : (y : Int) % 16 = (m : Int) := by omega
  have hX := RB.lcf_eq
  have HB := hid (al w (.cells (RB.enc r) 24))
  have hRc := RB.Rec.new w r hr.1
  have hsz16 := RB.enc_size hr.1
  have HC1 := hid (fun W g (h : Ly W g 0 (M.ql d m)) => mrun_any g 0 6 6 (M.ql d m) r rfl (by omega) (M.ql_ok hd16 hm16) hr W h (M.ql_right hd16 hm16))
  have HC2 := hid (fun W g (h : Ly W g 0 M.ql2) => mrun_any g 0 2 2 M.ql2 r rfl (by omega) M.ql2_ok hr W h M.ql2_right)
  have HC3 := hid (fun W g (h : Ly W g 0 M.ql3) => mrun_any g 0 3 3 M.ql3 r rfl (by omega) M.ql3_ok hr W h M.ql3_right)
  rw [M.ql_run r hd16 hm16] at HC1
  rw [M.ql2_run r] at HC2
  rw [M.ql3_run r] at HC3
  obtain ⟨W1, hW1⟩ : ∃ W1, w.alloc (.cells (RB.enc r) 24) = W1 := ⟨_, rfl⟩
  rw [hW1] at HB hRc
  clear hd hm
  have hRa := hRc.alloc (.cells (i4s (M.ql d m)).toArray 27)
  have hl16 := fun o => (hRc.alloc o).load
  have HL1 := hid (ly_lit W1 (M.ql d m) 6 rfl (by unfold maxLen; omega) (by omega))
  go_enter Try.func3, Try.ntmps3
  go_wp2_with fail
  refine (HC1.out _ _ HL1.out).mono ?_
  rintro e w2 ⟨rfl, hb⟩
  replace HB := al_stp HB hb
  replace hRc := hRa.below hb hRa.lt
  clear hb hl16 hRa HL1 HC1
  have hRa := hRc.alloc (.cells (i4s M.ql2).toArray 27)
  have hl16 := fun o => (hRc.alloc o).load
  go_wp2_with fail
  refine (HC2.out _ _ (ly_lit w2 M.ql2 2 rfl (by unfold maxLen; omega) (by omega))).mono ?_
  rintro e w3 ⟨rfl, hb⟩
  replace HB := al_stp HB hb
  replace hRc := hRa.below hb hRa.lt
  clear hb hl16 hRa HC2
  have hRa := hRc.alloc (.cells (i4s M.ql3).toArray 27)
  have hl16 := fun o => (hRc.alloc o).load
  go_wp2_with fail
  refine (HC3.out _ _ (ly_lit w3 M.ql3 3 rfl (by unfold maxLen; omega) (by omega))).mono ?_
  rintro e w4 ⟨rfl, hb⟩
  replace HB := al_stp HB hb
  replace hRc := hRa.below hb hRa.lt
  clear hb hl16 hRa HC3
  go_wp2_with fail
  refine (awake_any _).mono ?_
  rintro e w5 ⟨rfl, hb⟩
  replace HB := stp HB hb
  replace hRc := hRc.below hb hRc.lt
  have hc := hRc.cell d hd16
  clear hb
  go_wp2
  go_ret
  exact ⟨rfl, HB.out⟩
end Go.Proofs.Ytejolpbdpcllkab.B
