/-
  The few answers that the document fixes, as a walk over the Go text: they are as it says.
-/
import Derived.Test.YtcojhfppipdfoaaVerRefE
import Derived.Test.YtcojhfppipdfoaaInsJoin
namespace Go.Proofs.Ytcojhfppipdfoaa.B
open Go.ChangeShapes Go.WideShapes Go.ChangeAt Go.RowKit
open Go.Sort hiding Below
set_option linter.unusedVariables false

def r6 : M.I := (6, 0, 0, 0)
def l1 : List M.I := [(96, 0, 0, 0), r6]
def l2 : List M.I := [(2, 0, 0, 3), (96, 0, 0, 3), r6]
def l3 : List M.I := [r6, (32, 0, 0, 2), r6]
def l4 : List M.I := [r6, (0, 0, 0, 0)]
def l6 : List M.I := [(5, 0, 0, 4294967295), r6]
def l7 : List M.I := [(2, 0, 0, 3), r6]
def l8 : List M.I := [r6]
theorem aw1 : M.check l1 = (0, 10) := by decide +kernel
theorem aw2 : M.check l2 = (0, 0) := by decide +kernel
theorem aw3 : M.check l3 = (1, 11) := by decide +kernel
theorem aw4 : M.check l4 = (1, 12) := by decide +kernel
theorem aw5 : M.check [] = (0, 4) := by decide +kernel
theorem aw6 : M.check l6 = (0, 7) := by decide +kernel
theorem aw7 : (M.wa l7).2 = 0 ∧ M.wr l7 0 = 0 ∧ M.wr l7 1 = 8 := by decide +kernel
theorem aw8 : M.rightB l8 = true := by decide +kernel
theorem okl : (∀ i ∈ l1, M.okI i) ∧ (∀ i ∈ l2, M.okI i) ∧ (∀ i ∈ l3, M.okI i) ∧ (∀ i ∈ l4, M.okI i) ∧ (∀ i ∈ l6, M.okI i) ∧ (∀ i ∈ l7, M.okI i) ∧ (∀ i ∈ l8, M.okI i) := by
  unfold M.okI; decide
theorem lies_lit (w : World) (l : List M.I) (n : Nat) (hn : l.length = n) (hm : n ≤ maxLen) : Lies (w.alloc (.cells (i4s l).toArray 38)) (some ⟨w.heap.size, 0, none⟩) l :=
  lies_of_own (n := n) (cap := n) (World.ownsRow_lit (base := w.heap.size) (e := 38) (size := 4) w (i4s l).toArray n (Nat.le_refl _) hm (by simp [i4s_len, hn])) hn

theorem results_one {fn : Func} (h : fn.results = #[.cell 0 38]) (tmps : Array Value) (w : World) {b : Nat} {c t f k : Int} (hp : tmps[0]?.getD undef = .pointer (some ⟨b, 0, none⟩)) (hA : At w b c t f k) :
    (results fn tmps).run Try.prog w = .ok (.agg #[.int .u16 c, .int .u8 t, .int .u8 f, .int .u32 k]) w := by
  obtain ⟨a0, a1, a2, a3, a4⟩ := hA.cells
  simp [results, h, hp, go_sem, a0, a1, a2, a3]
set_option maxHeartbeats 1600000 in
set_option maxRecDepth 100000 in
theorem ret_any (w : World) : Calls Try.prog 19 #[] w fun e w' => e = .returned (.agg #[.int .u16 6, .int .u8 0, .int .u8 0, .int .u32 0]) ∧ Below w.heap.size w w' := by
  go_enter Try.func19, Try.ntmps19
  go_wp2
  refine bodyPost_ret (v := .agg #[.int .u16 6, .int .u8 0, .int .u8 0, .int .u32 0]) ?_ rfl ⟨rfl, al _ _⟩
  exact results_one Try.results19 _ _ rfl (At.new w 6 0 0 0)
theorem ck (g n : Nat) (l : List M.I) (hn : l.length = n) (hs : n ≤ 9223372036854775807) (ok : ∀ i ∈ l, M.okI i) (p : Nat) (e0 : Int) (hp : M.check l = (p, e0)) (w : World) (hl : Lies w (some ⟨g, 0, none⟩) l) :
    Calls Try.prog 10 #[.slice (some ⟨g, 0, none⟩) n n] w fun e w' => e = .returned (.tuple #[.int .i64 (p : Int), .int .i64 e0]) ∧ Below w.heap.size w w' := check_any _ n n l hn hs ok w hl p e0 hp

set_option maxHeartbeats 3200000 in
set_option maxRecDepth 1000000 in
theorem awake_any (w : World) : Calls Try.prog 9 #[] w fun e w' => e = .returned (.bool true) ∧ Below w.heap.size w w' := by
  have HB := hid (Below.refl w.heap.size w)
  go_enter Try.func9, Try.ntmps9
  go_wp2_with (go_at_call 19; refine (ret_any _).mono ?_; rintro e w1 ⟨rfl, hb⟩; have HB := stp HB hb; clear hb)
  refine (ck _ 2 l1 rfl (by omega) okl.1 0 10 aw1 _ (lies_lit w1 l1 2 rfl (by unfold maxLen; omega))).mono ?_
  rintro e w2 ⟨rfl, hb⟩
  replace HB := al_stp HB hb
  clear hb
  go_wp2_with (go_at_call 19; refine (ret_any _).mono ?_; rintro e w1 ⟨rfl, hb⟩; have HB := stp HB hb; clear hb)
  refine (ck _ 3 l2 rfl (by omega) okl.2.1 0 0 aw2 _ (lies_lit w1 l2 3 rfl (by unfold maxLen; omega))).mono ?_
  rintro e w3 ⟨rfl, hb⟩
  replace HB := al_stp HB hb
  clear hb
  go_wp2_with (go_at_call 19; refine (ret_any _).mono ?_; rintro e w1 ⟨rfl, hb⟩; have HB := stp HB hb; clear hb)
  refine (ck _ 3 l3 rfl (by omega) okl.2.2.1 1 11 aw3 _ (lies_lit w1 l3 3 rfl (by unfold maxLen; omega))).mono ?_
  rintro e w4 ⟨rfl, hb⟩
  replace HB := al_stp HB hb
  clear hb
  go_wp2_with (go_at_call 19; refine (ret_any _).mono ?_; rintro e w1 ⟨rfl, hb⟩; have HB := stp HB hb; clear hb)
  refine (ck _ 2 l4 rfl (by omega) okl.2.2.2.1 1 12 aw4 _ (lies_lit w1 l4 2 rfl (by unfold maxLen; omega))).mono ?_
  rintro e w5 ⟨rfl, hb⟩
  replace HB := al_stp HB hb
  clear hb
  go_wp2_with fail
  refine (check_any none 0 0 [] rfl (by omega) (by simp) _ (.inl rfl) 0 4 aw5).mono ?_
  rintro e w6 ⟨rfl, hb⟩
  replace HB := stp HB hb
  clear hb
  go_wp2_with (go_at_call 19; refine (ret_any _).mono ?_; rintro e w1 ⟨rfl, hb⟩; have HB := stp HB hb; clear hb)
  refine (ck _ 2 l6 rfl (by omega) okl.2.2.2.2.1 0 7 aw6 _ (lies_lit w1 l6 2 rfl (by unfold maxLen; omega))).mono ?_
  rintro e w7 ⟨rfl, hb⟩
  replace HB := al_stp HB hb
  clear hb
  go_wp2_with (go_at_call 19; refine (ret_any _).mono ?_; rintro e w1 ⟨rfl, hb⟩; have HB := stp HB hb; clear hb)
  refine (vwritten_any (some ⟨_, 0, none⟩) 2 2 l7 rfl okl.2.2.2.2.2.1 _ (lies_lit w1 l7 2 rfl (by unfold maxLen; omega)) rfl aw7.1).mono ?_
  rintro e w8 ⟨g, rfl, hR, hb⟩
  replace HB := al_stp HB hb
  have v0 := hR.cell 0 (by omega)
  have v1 := hR.cell 1 (by omega)
  rw [aw7.2.1] at v0
  rw [aw7.2.2] at v1
  simp only [Int.cast_ofNat_Int] at v0 v1
  clear hR hb
  go_wp2_with fail
  refine (ret_any _).mono ?_
  rintro e w9 ⟨rfl, hb⟩
  replace HB := stp HB hb
  clear hb v0 v1
  go_wp2_with fail
  refine (right_any (some ⟨_, 0, none⟩) 1 1 l8 rfl (by omega) okl.2.2.2.2.2.2 _ (lies_lit w9 l8 1 rfl (by unfold maxLen; omega)) true aw8).mono ?_
  rintro e w10 ⟨rfl, hb⟩
  replace HB := al_stp HB hb
  clear hb
  go_wp2_with fail
  refine (local_out none 0 0 0 (by omega) (by omega) _).mono ?_
  rintro e w11 ⟨rfl, rfl⟩
  go_wp2
  go_ret
  exact ⟨rfl, HB.out⟩
end Go.Proofs.Ytcojhfppipdfoaa.B
