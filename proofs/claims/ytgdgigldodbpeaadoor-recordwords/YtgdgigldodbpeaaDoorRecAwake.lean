/-
  The answers that are fixed ahead of each statement of layer 3.
-/
import Derived.Test.YtgdgigldodbpeaaDoorRecWith
import Derived.Test.YtgdgigldodbpeaaDoorRecEq
import Derived.Test.YtgdgigldodbpeaaDoorRecNames
import Derived.Test.YtgdgigldodbpeaaDoorRecPrint
import Derived.Test.YtgdgigldodbpeaaDoorRecRead
namespace Go.Proofs.YtgdgigldodbpeaaDoor.B
open Go.ChangeShapes Go.WideShapes Go.ChangeAt Go.RowKit
set_option linter.unusedVariables false

theorem new_rec (w : World) (m : List Int) (hm : m.length = 16) : ∃ W2, (storeCells ⟨w.heap.size, 0, none⟩ (enc m).toList 0).run Tryd.prog (w.alloc (.cells (enc M.zero) 24)) = .ok () W2 ∧
    Rec W2 w.heap.size m ∧ (∀ b l, Rec w b l → Rec W2 b l) ∧ W2.heap.size = w.heap.size + 1 ∧ Below w.heap.size w W2 := by
  obtain ⟨W2, hst, hR, hO, hsz, hB⟩ := (Rec.new w M.zero rfl).store (m := m) hm
  exact ⟨W2, hst, hR, fun b l h => hO b l (Nat.ne_of_lt h.lt) (h.alloc _), by rw [hsz]; simp, hB _ _ (Nat.le_refl _) ((Below.refl _ w).alloc (Nat.le_refl _) _)⟩

def r0 : List Int := [5, 6, 0, 0, 1, 2, 0, 0, 0, 0, 0, 0, 0, 0, 0, 0]
def r1 : List Int := [5, 6, 0, 0, 7, 0, 0, 0, 0, 0, 0, 0, 0, 0, 0, 0]
theorem ok_lit {l : List Int} (h : l.length = 16) (hd : ∀ i : Fin 16, 0 ≤ l.getD i 0 ∧ l.getD i 0 < 4294967296) : M.okR l := ⟨h, fun i => by
  by_cases h' : i < 16
  · exact hd ⟨i, h'⟩
  · rw [List.getD_eq_getElem?_getD, List.getElem?_eq_none (by omega)]; decide⟩
theorem ok_r0 : M.okR r0 := ok_lit rfl (by decide)
theorem ok_r1 : M.okR r1 := ok_lit rfl (by decide)
theorem lit0 : ((((((enc M.zero).setIfInBounds 0 (.int .u32 5)).setIfInBounds 1 (.int .u32 6)).setIfInBounds 2 (.int .u32 0)).setIfInBounds 3 (.int .u32 0)).setIfInBounds 4 (.int .u32 1)).setIfInBounds 5 (.int .u32 2) = enc r0 := rfl
theorem lit1 : ((((((enc M.zero).setIfInBounds 0 (.int .u32 5)).setIfInBounds 1 (.int .u32 6)).setIfInBounds 2 (.int .u32 0)).setIfInBounds 3 (.int .u32 0)).setIfInBounds 4 (.int .u32 7)).setIfInBounds 5 (.int .u32 0) = enc r1 := rfl

theorem step3 {w W W' : World} {l : List Int} (H : Hid (Nm W ∧ Rec W w.heap.size l ∧ Below w.heap.size w W)) (hB : Below W.heap.size W W') : Hid (Nm W' ∧ Rec W' w.heap.size l ∧ Below w.heap.size w W') :=
  ⟨H.out.1.below hB (Nat.lt_of_le_of_lt (Nat.zero_le _) H.out.2.1.lt), H.out.2.1.below hB H.out.2.1.lt, H.out.2.2.trans (hB.mono H.out.2.2.size)⟩

theorem start3 {w : World} {l : List Int} (hN : Nm w) (ok : M.okR l) : Hid (Nm (w.alloc (.cells (enc l) 24)) ∧ Rec (w.alloc (.cells (enc l) 24)) w.heap.size l ∧ Below w.heap.size w (w.alloc (.cells (enc l) 24))) :=
  have hB : Below w.heap.size w (w.alloc (.cells (enc l) 24)) := (Below.refl _ w).alloc (Nat.le_refl _) _
  ⟨hN.below hB hN.size, Rec.new w l ok.1, hB⟩

set_option maxHeartbeats 1600000 in
set_option maxRecDepth 1000000 in
theorem awake_any (w : World) (hN : Nm w) : Calls Tryd.prog 12 #[] w fun e w' => e = .returned (.bool true) ∧ Below w.heap.size w w' := by
  have hX := lcf_eq
  have hz := zero_lit
  have hl0 := lit0
  have hl1 := lit1
  have hs0 : (enc r0).size = 16 := rfl
  obtain ⟨W, hst, hrW, _, hsW, hbW⟩ := new_rec w r0 rfl
  have HK : Hid (Nm W ∧ Rec W w.heap.size r0 ∧ Below w.heap.size w W) := ⟨hN.below hbW hN.size, hrW, hbW⟩
  have hld := hrW.load
  clear hN hrW hsW hbW
  go_enter Tryd.func12, Tryd.ntmps12
  go_wp2_with fail
  refine (load_any r0 ok_r0 _ (by decide) _).mono ?_
  rintro e w1 ⟨rfl, hB⟩
  have HK : Hid (Nm w1 ∧ Rec w1 w.heap.size r0 ∧ Below w.heap.size w w1) := step3 HK hB
  have hld := HK.out.2.1.load
  have v1 : M.load r0 20 = 2 := by decide
  have v2 : M.isL 20 = true := by decide
  clear hB
  go_wp2_with fail
  refine (load_any r0 ok_r0 _ (by decide) _).mono ?_
  rintro e w2 ⟨rfl, hB⟩
  have HK : Hid (Nm w2 ∧ Rec w2 w.heap.size r0 ∧ Below w.heap.size w w2) := step3 HK hB
  have hld := HK.out.2.1.load
  have v3 : M.isL 21 = false := by decide
  clear hB
  go_wp2_with fail
  refine (load_any r0 ok_r0 _ (by decide) _).mono ?_
  rintro e w3 ⟨rfl, hB⟩
  have HK : Hid (Nm w3 ∧ Rec w3 w.heap.size r0 ∧ Below w.heap.size w w3) := step3 HK hB
  have hld := HK.out.2.1.load
  have v4 : M.isL 64 = false := by decide
  clear hB
  go_wp2_with fail
  refine (field_any r0 ok_r0 _ _).mono ?_
  rintro e w4 ⟨rfl, hB⟩
  have HK : Hid (Nm w4 ∧ Rec w4 w.heap.size r0 ∧ Below w.heap.size w w4) := step3 HK hB
  have hld := HK.out.2.1.load
  have v5 : M.field r0 3 = 8589934593 := by decide
  have v6 : M.isF 3 = true := by decide
  clear hB
  go_wp2_with fail
  refine (field_any r0 ok_r0 _ _).mono ?_
  rintro e w5 ⟨rfl, hB⟩
  have HK : Hid (Nm w5 ∧ Rec w5 w.heap.size r0 ∧ Below w.heap.size w w5) := step3 HK hB
  have hld := HK.out.2.1.load
  have v7 : M.isF 9 = false := by decide
  clear hB
  go_wp2_with fail
  refine (with_any r0 ok_r0 _ _ (by decide) _).mono ?_
  rintro e w6 ⟨rfl, hB⟩
  have HK : Hid (Nm w6 ∧ Rec w6 w.heap.size r0 ∧ Below w.heap.size w w6) := step3 HK hB
  have v8 : M.with_ r0 3 7 = r1 := by decide
  have v9 : M.fits 3 7 = true := by decide
  have hs1 : (enc r1).size = 16 := rfl
  obtain ⟨w7, hst7, hC, _, hs7, hb7⟩ := new_rec w6 r1 rfl
  have HK : Hid (Nm w7 ∧ Rec w7 w.heap.size r0 ∧ Below w.heap.size w w7) := step3 HK hb7
  have hld := HK.out.2.1.load
  have HC : Hid (Rec w7 w6.heap.size r1) := hC
  clear hB hC hs7 hb7
  go_wp2_with fail
  refine (with_any r0 ok_r0 _ _ (by decide) _).mono ?_
  rintro e w8 ⟨rfl, hB⟩
  have HK : Hid (Nm w8 ∧ Rec w8 w.heap.size r0 ∧ Below w.heap.size w w8) := step3 HK hB
  have HC : Hid (Rec w8 w6.heap.size r1) := HC.out.below hB HC.out.lt
  have v10 : M.with_ r0 0 4294967296 = M.zero := by decide
  have v11 : M.fits 0 4294967296 = false := by decide
  have hs2 : (enc M.zero).size = 16 := rfl
  obtain ⟨w9, hst9, _, _, hs9, hb9⟩ := new_rec w8 M.zero rfl
  have HK : Hid (Nm w9 ∧ Rec w9 w.heap.size r0 ∧ Below w.heap.size w w9) := step3 HK hb9
  have HC : Hid (Rec w9 w6.heap.size r1) := HC.out.below hb9 HC.out.lt
  have hld := HK.out.2.1.load
  clear hB hs9 hb9
  go_wp2_with fail
  refine (of_any _ _).mono ?_
  rintro e w10 ⟨rfl, rfl⟩
  have v12 : M.ofw 5 = 3 := by decide
  have v13 : M.hiw 5 = true := by decide
  go_wp2_with fail
  refine (find_any _ _ HK.out.1 8 (by omega) (by decide) (fun _ => rfl)).mono ?_
  rintro e w11 ⟨rfl, rfl⟩
  go_wp2_with fail
  refine (print_any r0 ok_r0 _).mono ?_
  rintro e w12 ⟨rfl, hB⟩
  have HK : Hid (Nm w12 ∧ Rec w12 w.heap.size r0 ∧ Below w.heap.size w w12) := step3 HK hB
  have HC : Hid (Rec w12 w6.heap.size r1) := HC.out.below hB HC.out.lt
  have HS : Hid (M.rdr (M.str (M.pr r0)) = r0) := M.rdr_pr r0 ok_r0
  have hsS : (M.str (M.pr r0)).size = 64 := by rw [M.str_size, M.pr_len]; rfl
  generalize M.str (M.pr r0) = S at *
  clear hB
  go_wp2_with fail
  refine (read_any S _ hsS).mono ?_
  rintro e w13 ⟨rfl, hB⟩
  have HK : Hid (Nm w13 ∧ Rec w13 w.heap.size r0 ∧ Below w.heap.size w w13) := step3 HK hB
  have HC : Hid (Rec w13 w6.heap.size r1) := HC.out.below hB HC.out.lt
  have v14 : M.rdr S = r0 := HS.out
  obtain ⟨w14, hst14, hD, _, hs14, hb14⟩ := new_rec w13 r0 rfl
  have HK : Hid (Nm w14 ∧ Rec w14 w.heap.size r0 ∧ Below w.heap.size w w14) := step3 HK hb14
  have HC : Hid (Rec w14 w6.heap.size r1) := HC.out.below hb14 HC.out.lt
  have HD : Hid (Rec w14 w13.heap.size r0) := hD
  clear hB hD hs14 hb14
  have hld := HK.out.2.1.load
  have hlC := HC.out.load
  have hlD := HD.out.load
  have hg := guard24
  have he1 : ∀ W, (binOp .eql 24 (.agg (enc r1)) (.agg (enc r1))).run Tryd.prog W = .ok (.bool true) W := fun W => by rw [eql24 r1 r1 rfl rfl W]; simp
  have he0 : ∀ W, (binOp .eql 24 (.agg (enc r0)) (.agg (enc r0))).run Tryd.prog W = .ok (.bool true) W := fun W => by rw [eql24 r0 r0 rfl rfl W]; simp
  go_wp2_with fail
  refine (width_any _ _).mono ?_
  rintro e w15 ⟨rfl, rfl⟩
  have v15 : M.width 2 = 64 := by decide
  go_wp2_with fail
  refine (place_any _ _).mono ?_
  rintro e w16 ⟨rfl, rfl⟩
  have v16 : M.place 8 = 14 := by decide
  go_wp2_with fail
  refine (name_yes 1 (by omega) _ HK.out.1).mono ?_
  rintro e w17 ⟨rfl, rfl⟩
  have v17 : (nm 1).toList = [97, 114, 99, 104] := by rw [ByteArray.toList_eq]; rfl
  go_wp2
  go_ret
  exact ⟨rfl, HK.out.2.2⟩
end Go.Proofs.YtgdgigldodbpeaaDoor.B
