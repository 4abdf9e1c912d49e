/-
  The reference's Without, as a walk over the Go text.
-/
import Derived.Test.YtcojhfppipdfoabVerRefB
namespace Go.Proofs.Ytcojhfppipdfoab.M
theorem outAt_skip {l : List I} {v : Int} {k : Nat} (hk : k < l.length) (h : ((outAt l v k).getD k false && !wrW v l[k]) = false) : outAt l v (k + 1) = outAt l v k := by
  rw [outAt]; unfold stepW
  rw [List.getElem?_eq_getElem hk]
  simp only
  rw [if_neg (by rw [h]; simp)]
theorem outAt_go {l : List I} {v : Int} {k : Nat} (hk : k < l.length) (h : ((outAt l v k).getD k false && !wrW v l[k]) = true) : outAt l v (k + 1) = setAll (outAt l v k) (nxt k l[k]) := by
  rw [outAt]; unfold stepW
  rw [List.getElem?_eq_getElem hk]
  simp only
  rw [if_pos h]
theorem nxt_len (i : Nat) (x : I) : (nxt i x).length ≤ 2 := by
  unfold nxt
  split
  · simp
  · split
    · simp
    · split <;> simp
theorem setAll_snoc (o : List Bool) (js : List Nat) (j : Nat) : setAll o (js ++ [j]) = (setAll o js).set j true := by
  unfold setAll; rw [List.foldl_append]; rfl
end Go.Proofs.Ytcojhfppipdfoab.M
namespace Go.Proofs.Ytcojhfppipdfoab.B
open Go.ChangeShapes Go.WideShapes Go.ChangeAt Go.RowKit
open Go.Sort hiding Below
set_option linter.unusedVariables false

theorem infob : (Try.prog.info? 4).map (fun i => (i.zero, i.size, i.bytes)) = some (some (.bool false), 1, 1) := by kernel_rfl
set_option maxHeartbeats 3200000 in
set_option maxRecDepth 100000 in
theorem without_any (b o n cap : Nat) (l : List M.I) (hln : l.length = n) (h0 : 0 < n) (hn : n ≤ 65536) (ok : ∀ i ∈ l, M.okI i) (w : World) (hl : Ly w b o l) (v : Int) :
    Calls Try.prog 8 #[.slice (some ⟨b, o, none⟩) n cap, .int .i64 v] w fun e w' => ∃ g, e = .returned (.slice (some ⟨g, 0, none⟩) n n) ∧ Row w' g n (fun j => .bool (M.bare l v j)) ∧ Below w.heap.size w w' ∧ w.heap.size ≤ g := by
  obtain ⟨i0, hi, hz0, hz1, hz2⟩ := info_parts infob
  have HH := hid (And.intro hln (And.intro ok hl))
  clear hln ok hl
  have c0 : ((n : Int) == 0) = false := beq_eq_false_iff_ne.2 (by omega)
  have i1 : (0 : Int) < (n : Int) := by omega
  go_enter Try.func8, Try.ntmps8
  go_wp2_with (at_make; refine wpList_make_full _ rfl _ _ 33 rfl w.heap.size 4 i0 (.bool false) 1 Try.underlying33 hi hz0 hz1 .i64 .i64 n n n rfl rfl rfl rfl ?c1 ?c2 (Nat.le_refl _) ?_)
  case c1 => rw [hz2]; omega
  case c2 => unfold maxLen; omega
  intro wm hown hgrow
  have hbm : Below w.heap.size w wm := (Below.refl _ _).grown hgrow (Nat.le_refl _) (by intro k hk; cases hk)
  have hR0 : Row wm w.heap.size n (fun _ => .bool false) := Row.of_own hown (fun j hj => made_get (.bool false) n j hj) (hown.lt _ rfl).2
  have cZ := hR0.cell 0 h0
  have fZ := hR0.froz 0 h0
  have HM := hid (show Row (wm.setCell ⟨w.heap.size, 0, none⟩ (.bool true)) w.heap.size n (fun j => .bool ((M.outAt l v 0).getD j false)) ∧ Below w.heap.size w (wm.setCell ⟨w.heap.size, 0, none⟩ (.bool true)) from
    ⟨(hR0.set 0 h0 _).congr (fun j hj => by
      have e : (M.outAt l v 0).getD j false = decide (j = 0) := by
        rw [M.outAt, M.set_getD]
        rw [List.getD_eq_getElem?_getD, List.getElem?_replicate, if_pos (by rw [HH.out.1]; exact hj), List.length_replicate]
        simp only [HH.out.1]
        by_cases e3 : j = 0 <;> simp [e3, eq_comm, h0]
      rw [e]
      by_cases e2 : j = 0
      · simp [e2]
      · simp [e2]), hbm.setCell (Nat.le_refl _) _⟩)
  clear hown hgrow hbm hR0
  go_wp2
  generalize wm.setCell ⟨w.heap.size, 0, none⟩ (.bool true) = wz at *
  clear cZ fZ
  go_loopw [6] (fun i wr => ∃ k : Nat, k ≤ n ∧ i = .int .i64 k ∧ Hid (Row wr w.heap.size n (fun j => .bool ((M.outAt l v k).getD j false)) ∧ Below w.heap.size w wr)) (fun i _ => n - (intOf i).toNat)
  case atStart => exact ⟨0, Nat.zero_le _, rfl, HM.out⟩
  case round =>
    clear HM
    obtain ⟨k, hk, rfl, HR⟩ := hrel
    by_cases hlt : k < n
    · have i2 : (k : Int) < (n : Int) := by omega
      have hkl : k < l.length := by rw [HH.out.1]; exact hlt
      obtain ⟨x, hx⟩ : ∃ x, l[k] = x := ⟨_, rfl⟩
      have hok : M.okI x := hx ▸ HH.out.2.1 _ (List.getElem_mem hkl)
      have HL := hid (HH.out.2.2.below HR.out.2)
      obtain ⟨js, hjs⟩ : ∃ js, M.nxt k x = js := ⟨_, rfl⟩
      have HN := hid (fun w hl => next_ly b o n cap k l HH.out.1 hn hkl HH.out.2.1 w hl js js.length (by rw [hx]; exact hjs) rfl)
      obtain ⟨ob, hob⟩ : ∃ ob, (M.outAt l v k).getD k false = ob := ⟨_, rfl⟩
      have HS := hid (fun h : (ob && !M.wrW v x) = false => M.outAt_skip (v := v) hkl (by rw [hob, hx]; exact h))
      have HG := hid (fun h : (ob && !M.wrW v x) = true => (by have := M.outAt_go (v := v) hkl (by rw [hob, hx]; exact h); rw [hx, hjs] at this; exact this : M.outAt l v (k + 1) = M.setAll (M.outAt l v k) js))
      have hq := HL.out.2 k hkl
      have HQ := hid (fun w' (hb : Below wr.heap.size wr w') => (HL.out.below hb).2 k hkl)
      rw [hx] at HQ
      have hlen : js.length ≤ 2 := by rw [← hjs]; exact M.nxt_len _ _
      clear hjs
      obtain ⟨c, t, f, kk⟩ := x
      rw [hx] at hq
      obtain ⟨q0, q1, q2, q3⟩ := hq
      simp only at q0 q1 q2 q3
      obtain ⟨b0, b1, b2, b3⟩ := hok
      simp only at b0 b1 b2 b3
      have HO := hid (fun w' (hb : Below wr.heap.size wr w') => (by have := (HR.out.1.below hb).cell k hlt; rw [hob] at this; exact this : w'.cell? ⟨w.heap.size, k, none⟩ = some (.bool ob)))
      have hwr : M.wrW v (c, t, f, kk) = ((M.kind c == 8 || M.kind c == 9) && kk == v) := rfl
      rw [hwr] at HS HG
      have hbk := hid b0
      clear b0 hx hob hwr
      have cs : (ob = false ∨ ob = true ∧ ((M.kind c == 8) = true ∧ (kk == v) = true ∨ (M.kind c == 8) = false ∧ (M.kind c == 9) = true ∧ (kk == v) = true)) ∨ (ob = true ∧ ((M.kind c == 8) = true ∧ (kk == v) = false ∨ (M.kind c == 8) = false ∧ ((M.kind c == 9) = true ∧ (kk == v) = false ∨ (M.kind c == 9) = false))) := by
        cases ob <;> cases (M.kind c == 8) <;> cases (M.kind c == 9) <;> cases (kk == v) <;> simp
      rcases cs with cs | cs
      · rcases cs with rfl | ⟨rfl, ⟨d1, d2⟩ | ⟨d1, d2, d3⟩⟩
        all_goals
          have hS := HS.out (by simp [*])
          have HS2 := hid hS
          clear hS HS HG HN
          go_wp2_with fail
          refine (rkind_any _ hbk.out.1 hbk.out.2 _).mono ?_
          rintro e w2 ⟨rfl, hb⟩
          have hc := HO.out _ hb
          obtain ⟨r0, r1, r2, r3⟩ := HQ.out _ hb
          simp only at r0 r1 r2 r3
          have HB := hid (show Row w2 w.heap.size n (fun j => .bool ((M.outAt l v k).getD j false)) ∧ Below w.heap.size w w2 from ⟨HR.out.1.below hb, (stp (hid HR.out.2) hb).out⟩)
          clear hb
          go_wp2
          go_roundw
          case rel => exact ⟨k + 1, by omega, by go_num, by rw [HS2.out]; exact HB.out⟩
          case measure => simp [intOf]; omega
      · rcases cs with ⟨rfl, ⟨d1, d2⟩ | ⟨d1, ⟨d2, d3⟩ | d2⟩⟩
        all_goals
          have hG := HG.out (by simp [*])
          have HG2 := hid hG
          clear hG HS HG
          go_wp2_with fail
          refine (rkind_any _ hbk.out.1 hbk.out.2 _).mono ?_
          rintro e w2 ⟨rfl, hb⟩
          have hc := HO.out _ hb
          obtain ⟨r0, r1, r2, r3⟩ := HQ.out _ hb
          simp only at r0 r1 r2 r3
          have HB := hid (show Row w2 w.heap.size n (fun j => .bool ((M.outAt l v k).getD j false)) ∧ Below w.heap.size w w2 from ⟨HR.out.1.below hb, (stp (hid HR.out.2) hb).out⟩)
          have HL2 := hid (HL.out.below hb)
          clear hb HL HR
          go_wp2_with (go_at_call 22; refine (HN.out _ HL2.out).mono ?_; rintro e w3 ⟨a, rfl, hnx, hfr, hb⟩)
          have hgn : ∀ A, a = some A → A.block ≠ w.heap.size := fun A hA => by have := hfr A hA; have := HB.out.1.lt; omega
          have HI := hid (show Row w3 w.heap.size n (fun j => .bool ((M.outAt l v k).getD j false)) ∧ Below w.heap.size w w3 ∧ Nx w3 a js from ⟨HB.out.1.below hb, (stp (hid HB.out.2) hb).out, hnx⟩)
          have HGN := hid hgn
          clear hb HB HL2 hnx hfr hc r0 r1 r2 r3 q0 q1 q2 q3 hgn HN
          obtain ⟨m, hm⟩ : ∃ m, js.length = m := ⟨_, rfl⟩
          rw [hm]
          have HMM := hid hm
          have hm2 : m ≤ 2 := by omega
          clear hm hlen
          go_loopw [9] (fun i wr => ∃ q : Nat, q ≤ m ∧ i = .int .i64 q ∧ Hid (Row wr w.heap.size n (fun j => .bool ((M.setAll (M.outAt l v k) (js.take q)).getD j false)) ∧ Below w.heap.size w wr ∧ Nx wr a js)) (fun i _ => m - (intOf i).toNat)
          case atStart => exact ⟨0, Nat.zero_le _, rfl, HI.out⟩
          case round =>
            clear HI
            obtain ⟨q, hq, rfl, HJ⟩ := hrel
            by_cases hq2 : q < m
            · have i3 : (q : Int) < (m : Int) := by omega
              have hqj : q < js.length := by rw [HMM.out]; exact hq2
              rcases HJ.out.2.2 with h | ⟨g', rfl, hg', hcell⟩
              · rw [h] at hqj; simp at hqj
              obtain ⟨y, hy⟩ : ∃ y, js[q] = y := ⟨_, rfl⟩
              have cy := hcell q hqj
              rw [hy] at cy
              have HSet := hid (show M.setAll (M.outAt l v k) (js.take (q + 1)) = (M.setAll (M.outAt l v k) (js.take q)).set y true by
                rw [List.take_succ_eq_append_getElem hqj, hy, M.setAll_snoc])
              have HLen := hid (show (M.setAll (M.outAt l v k) (js.take q)).length = n by rw [M.setAll_len, M.outAt_len, HH.out.1])
              clear hcell hy
              by_cases hyn : y < n
              · have i4 : (y : Int) < (n : Int) := by omega
                have cR := HJ.out.1.cell y hyn
                have fR := HJ.out.1.froz y hyn
                go_wp2
                go_roundw
                case rel => exact ⟨q + 1, by omega, by go_num, (HJ.out.1.set y hyn _).congr (fun j hj => by
                  rw [HSet.out, M.set_getD, HLen.out]
                  by_cases e : j = y
                  · subst e; simp [hj]
                  · have e2 : ¬ y = j := fun h => e h.symm
                    simp [e, e2]), HJ.out.2.1.setCell (Nat.le_refl _) _, HJ.out.2.2.off HGN.out⟩
                case measure => simp [intOf]; omega
              · have i4 : ¬ (y : Int) < (n : Int) := by omega
                go_wp2
                go_roundw
                case rel => exact ⟨q + 1, by omega, by go_num, HJ.out.1.congr (fun j hj => by
                  rw [HSet.out, M.set_getD, HLen.out]
                  have e2 : ¬ y = j := fun h => by omega
                  simp [e2]), HJ.out.2.1, HJ.out.2.2⟩
                case measure => simp [intOf]; omega
            · obtain rfl : q = m := by omega
              have HT := hid (show js.take q = js by rw [← HMM.out]; exact List.take_length)
              go_wp2
              go_roundw
              case rel => exact ⟨k + 1, by omega, by go_num, by rw [HG2.out]; have := HJ.out; rw [HT.out] at this; exact ⟨this.1, this.2.1⟩⟩
              case measure => simp [intOf]; omega
    · obtain rfl : k = n := by omega
      go_wp2
      go_ret
      exact ⟨_, rfl, HR.out.1.congr (fun j hj => by unfold M.bare; rw [HH.out.1]), HR.out.2, Nat.le_refl _⟩
end Go.Proofs.Ytcojhfppipdfoab.B
