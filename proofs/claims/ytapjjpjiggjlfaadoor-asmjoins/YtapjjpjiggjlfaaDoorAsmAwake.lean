/-
  The few answers that the document fixes, as a walk over the Go text: they are as it says.
-/
import Derived.Test.YtapjjpjiggjlfaaDoorAsmRefT
import Derived.Test.YtapjjpjiggjlfaaDoorAsmLaid
namespace Go.Proofs.YtapjjpjiggjlfaaDoor.B
open Go.ChangeShapes Go.WideShapes Go.ChangeAt Go.RowKit
open Go.Sort hiding Below
set_option linter.unusedVariables false

def tA : List UInt8 := [106, 101, 113, 32, 55, 32, 49, 32, 48]
def tB : List UInt8 := [106, 101, 113, 32, 48, 55, 32, 49, 32, 48]
def tC : List UInt8 := [106, 101, 113, 32, 55, 32, 49, 32, 48, 10, 114, 101, 116, 32, 52, 50, 57, 52, 57, 54, 55, 50, 57, 53, 10]
def tD : List UInt8 := [114, 101, 116, 32, 48, 10, 114, 101, 116, 10]
def l2 : List M.I := [(21, 1, 0, 7), (6, 0, 0, 4294967295)]
theorem aw1 : M.line (21, 1, 0, 7) = (tA, 0) := by decide +kernel
theorem aw2 : M.parse tA = some (21, 1, 0, 7) := by decide +kernel
theorem aw3 : M.parse tB = none := by decide +kernel
theorem aw4 : M.line (135, 0, 0, 1) = ([], 1) := by decide +kernel
theorem aw5 : M.line (148, 0, 0, 0) = ([], 6) := by decide +kernel
theorem aw6 : M.print l2 = (tC, 0) := by decide +kernel
theorem aw7 : M.rows [] 0 tC = .inr l2 := by decide +kernel
theorem aw8 : M.rows [] 0 tD = .inl 6 := by decide +kernel
theorem aw9 : M.num 0 = [48] := by decide +kernel
theorem okl2 : ∀ i ∈ l2, M.okI i := by
  intro i hi
  simp only [l2, List.mem_cons, List.not_mem_nil, or_false] at hi
  rcases hi with rfl | rfl <;> (unfold M.okI; simp only; omega)
theorem cA1 (w : World) (hN : Nm w) : Calls Tryd.prog 10 #[.agg #[.int .u16 21, .int .u8 1, .int .u8 0, .int .u32 7]] w fun e w' => e = .returned (.tuple #[.string ⟨#[106, 101, 113, 32, 55, 32, 49, 32, 48]⟩, .int .i64 0]) ∧ Below w.heap.size w w' := by
  have := line_any 21 1 0 7 (by unfold M.okI; simp only; omega) w hN
  rw [aw1] at this
  exact this
theorem cA2 (w : World) (hN : Nm w) : Calls Tryd.prog 12 #[.string ⟨#[106, 101, 113, 32, 55, 32, 49, 32, 48]⟩] w fun e w' => e = .returned (.tuple #[.agg #[.int .u16 21, .int .u8 1, .int .u8 0, .int .u32 7], .int .i64 0]) ∧ Below w.heap.size w w' := by
  have := parse_any ⟨#[106, 101, 113, 32, 55, 32, 49, 32, 48]⟩ (by decide) w hN
  rw [show ((⟨#[106, 101, 113, 32, 55, 32, 49, 32, 48]⟩ : ByteArray).data.toList) = tA from rfl, aw2] at this
  exact this
theorem cA3 (w : World) (hN : Nm w) : Calls Tryd.prog 12 #[.string ⟨#[106, 101, 113, 32, 48, 55, 32, 49, 32, 48]⟩] w fun e w' => e = .returned (.tuple #[.agg #[.int .u16 0, .int .u8 0, .int .u8 0, .int .u32 0], .int .i64 3]) ∧ Below w.heap.size w w' := by
  have := parse_any ⟨#[106, 101, 113, 32, 48, 55, 32, 49, 32, 48]⟩ (by decide) w hN
  rw [show ((⟨#[106, 101, 113, 32, 48, 55, 32, 49, 32, 48]⟩ : ByteArray).data.toList) = tB from rfl, aw3] at this
  exact this
theorem cA4 (w : World) (hN : Nm w) : Calls Tryd.prog 10 #[.agg #[.int .u16 135, .int .u8 0, .int .u8 0, .int .u32 1]] w fun e w' => e = .returned (.tuple #[.string ⟨#[]⟩, .int .i64 1]) ∧ Below w.heap.size w w' := by
  have := line_any 135 0 0 1 (by unfold M.okI; simp only; omega) w hN
  rw [aw4] at this
  exact this
theorem cA5 (w : World) (hN : Nm w) : Calls Tryd.prog 10 #[.agg #[.int .u16 148, .int .u8 0, .int .u8 0, .int .u32 0]] w fun e w' => e = .returned (.tuple #[.string ⟨#[]⟩, .int .i64 6]) ∧ Below w.heap.size w w' := by
  have := line_any 148 0 0 0 (by unfold M.okI; simp only; omega) w hN
  rw [aw5] at this
  exact this
theorem cA6 (g : Nat) (w : World) (hl : Lies w (some ⟨g, 0, none⟩) l2) (hN : Nm w) : Calls Tryd.prog 17 #[.slice (some ⟨g, 0, none⟩) 2 2] w fun e w' => e = .returned (.tuple #[.string ⟨tC.toArray⟩, .int .i64 0]) ∧ Below w.heap.size w w' := by
  have := aprint_some (some ⟨g, 0, none⟩) l2 2 w hl okl2 (by decide) (by decide) hN
  rw [aw6] at this
  exact this
theorem cA7 (w : World) (hN : Nm w) : Calls Tryd.prog 14 #[.string ⟨tC.toArray⟩] w fun e w' => ∃ g cap, e = .returned (.tuple #[.slice (some ⟨g, 0, none⟩) 2 cap, .int .i64 0, .int .i64 0]) ∧ Below w.heap.size w w' := by
  have := aread_rows ⟨tC.toArray⟩ (by decide) (by decide) (by decide) w hN
  rw [show ((⟨tC.toArray⟩ : ByteArray).data.toList) = tC from rfl, aw7] at this
  exact this.mono fun e w' ⟨g, cap, h1, _, h2⟩ => ⟨g, cap, h1, h2⟩
theorem cA8 (w : World) (hN : Nm w) : Calls Tryd.prog 14 #[.string ⟨#[114, 101, 116, 32, 48, 10, 114, 101, 116, 10]⟩] w fun e w' => e = .returned (.tuple #[.slice none 0 0, .int .i64 6, .int .i64 3]) ∧ Below w.heap.size w w' := by
  have := aread_rows ⟨#[114, 101, 116, 32, 48, 10, 114, 101, 116, 10]⟩ (by decide) (by decide) (by decide) w hN
  rw [show ((⟨#[114, 101, 116, 32, 48, 10, 114, 101, 116, 10]⟩ : ByteArray).data.toList) = tD from rfl, aw8] at this
  exact this
theorem cA9 (w : World) (hN : Nm w) : Calls Tryd.prog 19 #[.int .u32 0] w fun e w' => e = .returned (.string ⟨#[48]⟩) ∧ Below w.heap.size w w' := by
  have := number_any 0 (by omega) w hN
  rw [aw9] at this
  exact this
theorem lies_l2 (w : World) : Lies (w.alloc (.cells #[.int .u16 21, .int .u8 1, .int .u8 0, .int .u32 7, .int .u16 6, .int .u8 0, .int .u8 0, .int .u32 4294967295] 25)) (some ⟨w.heap.size, 0, none⟩) l2 :=
  lies_of_own (n := 2) (cap := 2) (World.ownsRow_lit (base := w.heap.size) (e := 25) (size := 4) w #[.int .u16 21, .int .u8 1, .int .u8 0, .int .u32 7, .int .u16 6, .int .u8 0, .int .u8 0, .int .u32 4294967295] 2 (Nat.le_refl _) (by unfold maxLen; omega) rfl) rfl
theorem al (w : World) (o : Obj) : Below w.heap.size w (w.alloc o) := (Below.refl _ _).alloc (Nat.le_refl _) _
theorem al_stp {w a b : World} {o : Obj} (h : Hid (Below w.heap.size w a)) (h' : Below (a.alloc o).heap.size (a.alloc o) b) : Hid (Below w.heap.size w b) := stp (stp h (al a o)) h'

set_option maxHeartbeats 3200000 in
set_option maxRecDepth 1000000 in
theorem awake_any (w : World) (hN : Nm w) : Calls Tryd.prog 9 #[] w fun e w' => e = .returned (.bool true) ∧ Below w.heap.size w w' := by
  have HN := Lib.hid hN
  clear hN
  obtain ⟨C, hC⟩ : ∃ C : ByteArray, C = ⟨tC.toArray⟩ := ⟨_, rfl⟩
  have hCt : (C.toList == [106, 101, 113, 32, 55, 32, 49, 32, 48, 10, 114, 101, 116, 32, 52, 50, 57, 52, 57, 54, 55, 50, 57, 53, 10]) = true := by rw [hC, ByteArray.toList_mk]; decide
  have HC := Lib.hid hC
  clear hC
  have hg := guard39
  have hq := eql39
  go_enter Tryd.func9, Tryd.ntmps9
  go_wp2_with fail
  refine (cA1 _ (HN.out.below (al _ _))).mono ?_
  rintro e w1 ⟨rfl, hb⟩
  have hI := (At.new w 21 1 0 7).below hb
  have hB := al_stp (Lib.hid (Below.refl w.heap.size w)) hb
  clear hb
  go_wp2_with fail
  refine (cA2 _ (HN.out.below hB.out)).mono ?_
  rintro e w2 ⟨rfl, hb⟩
  have hI := hI.below hb
  have hB := stp hB hb
  clear hb
  go_wp2_with fail
  refine (cA3 _ (HN.out.below (hB.out.trans ((al _ _).mono hB.out.size)))).mono ?_
  rintro e w3 ⟨rfl, hb⟩
  have hI := (hI.alloc _).below hb
  have hJ := (At.new w2 21 1 0 7).below hb
  have hB := al_stp hB hb
  clear hb
  go_wp2_with fail
  refine (cA4 _ (HN.out.below (hB.out.trans ((al _ _).mono hB.out.size)))).mono ?_
  rintro e w4 ⟨rfl, hb⟩
  have hI := (hI.alloc _).below hb
  have hJ := (hJ.alloc _).below hb
  have hB := al_stp hB hb
  clear hb
  go_wp2_with fail
  refine (cA5 _ (HN.out.below hB.out)).mono ?_
  rintro e w5 ⟨rfl, hb⟩
  have hI := hI.below hb
  have hJ := hJ.below hb
  have hB := stp hB hb
  clear hb
  obtain ⟨a0, a1, a2, a3, a4⟩ := hI.cells
  go_wp2_with fail
  refine (cA6 _ _ (lies_l2 _) (HN.out.below (hB.out.trans ((al _ _).mono hB.out.size)))).mono ?_
  rintro e w6 ⟨rfl, hb⟩
  rw [← HC.out]
  have hI := (hI.alloc _).below hb
  have hJ := (hJ.alloc _).below hb
  have hB := al_stp hB hb
  clear hb a0 a1 a2 a3 a4
  go_wp2_with fail
  rw [HC.out]
  refine (cA7 _ (HN.out.below hB.out)).mono ?_
  rintro e w7 ⟨g, cap, rfl, hb⟩
  have hI := hI.below hb
  have hJ := hJ.below hb
  have hB := stp hB hb
  clear hb
  rw [← HC.out]
  go_wp2_with fail
  refine (cA8 _ (HN.out.below hB.out)).mono ?_
  rintro e w8 ⟨rfl, hb⟩
  have hI := hI.below hb
  have hJ := hJ.below hb
  have hB := stp hB hb
  clear hb
  obtain ⟨a0, a1, a2, a3, a4⟩ := hI.cells
  obtain ⟨b0, b1, b2, b3, b4⟩ := hJ.cells
  go_wp2_with (go_at_call 19; refine (cA9 _ (HN.out.below hB.out)).mono ?_; rintro e w9 ⟨rfl, hb⟩; have hB := stp hB hb; clear hb)
  go_ret
  exact ⟨rfl, hB.out⟩
end Go.Proofs.YtapjjpjiggjlfaaDoor.B
