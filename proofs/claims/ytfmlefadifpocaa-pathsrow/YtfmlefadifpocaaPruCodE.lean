/-
  The program's straight (a filter with jumps that go straight), as a walk over the Go text.
-/
import Derived.Test.YtfmlefadifpocaaJW
namespace Go.Proofs.Ytfmlefadifpocaa.B
open Go.ChangeShapes Go.WideShapes Go.ChangeAt Go.RowKit
open Go.Sort hiding Below
set_option linter.unusedVariables false

/-- the row, as it is behind the first k places -/
def stY (l : List M.I) (k j : Nat) : M.I := if j < k then M.strI l j else (0, 0, 0, 0)
theorem stY_succ (l : List M.I) (k j : Nat) : stY l (k + 1) j = if j = k then M.strI l k else stY l k j := by
  unfold stY
  by_cases e : j = k
  · subst e; rw [if_pos (by omega), if_pos rfl]
  · rw [if_neg e]
    by_cases e2 : j < k
    · rw [if_pos e2, if_pos (by omega)]
    · rw [if_neg e2, if_neg (by omega)]

set_option maxHeartbeats 3200000 in
set_option maxRecDepth 1000000 in
theorem cstraight (b o n cap : Nat) (l : List M.I) (hln : l.length = n) (hn : n ≤ 4096) (ok : ∀ i ∈ l, M.okI i) (hr : M.right l) (w : World) (hl : Ly w b o l) :
    Calls Try.prog 31 #[.slice (some ⟨b, o, none⟩) n cap] w fun e w' => ∃ g, e = .returned (.slice (some ⟨g, 0, none⟩) n n) ∧ Ro w' g n (M.strI l) ∧ Below w.heap.size w w' ∧ w.heap.size ≤ g := by
  obtain ⟨i0, hi, hz0, hz1, hz2⟩ := info_parts infoI
  have HH := hid (And.intro hln (And.intro ok (And.intro hl hr)))
  have hbl : b < w.heap.size := hl.1
  have hB1 := al w (.cells #[.slice (some ⟨b, o, none⟩) n cap] 22)
  have hO1 := One.new w (.slice (some ⟨b, o, none⟩) n cap) 22
  have hsz : (w.alloc (.cells #[.slice (some ⟨b, o, none⟩) n cap] 22)).heap.size = w.heap.size + 1 := by simp
  clear hln ok hl hr
  go_enter Try.func31, Try.ntmps31
  go_wp2_with (at_make; refine wpList_make_full _ rfl _ _ 22 rfl (w.heap.size + 1) 38 i0 (.agg #[.int .u16 0, .int .u8 0, .int .u8 0, .int .u32 0]) 4 Try.underlying22 hi hz0 hz1 .i64 .i64 n n n rfl rfl rfl rfl ?c1 ?c2 (Nat.le_of_eq hsz.symm) ?_)
  case c1 => rw [hz2]; omega
  case c2 => unfold maxLen; omega
  intro wm hown hgrow
  have HM := hid (show Ro wm (w.heap.size + 1) n (stY l 0) ∧ One wm w.heap.size (.slice (some ⟨b, o, none⟩) n cap) 22 ∧ Below w.heap.size w wm from
    ⟨(Ro.made hown).congr fun j _ => by unfold stY; rw [if_neg (by omega)], by
      have hb := (Below.refl _ _).grown hgrow (Nat.le_refl _) (by intro k hk; cases hk)
      exact hO1.below hb, hB1.grown hgrow (by omega) (by intro k hk; cases hk)⟩)
  have hO0 := HM.out.2.1.cell
  clear hown hgrow hB1 hO1 hsz
  go_wp2
  clear hO0
  go_loopw [12] (fun i wr => ∃ k : Nat, k ≤ n ∧ i = .int .i64 k ∧ Hid (Ro wr (w.heap.size + 1) n (stY l k) ∧ One wr w.heap.size (.slice (some ⟨b, o, none⟩) n cap) 22 ∧ Below w.heap.size w wr)) (fun i _ => n - (intOf i).toNat)
  case atStart => exact ⟨0, Nat.zero_le _, rfl, HM.out⟩
  case round =>
    clear HM
    obtain ⟨k, hk, rfl, HR⟩ := hrel
    by_cases hlt : k < n
    · have i2 : (k : Int) < (n : Int) := by omega
      have hkl : k < l.length := by rw [HH.out.1]; exact hlt
      obtain ⟨x, hx⟩ : ∃ x, l[k] = x := ⟨_, rfl⟩
      have h0x : M.at0 l k = x := by rw [M.at0_eq hkl]; exact hx
      have hok : M.okI x := hx ▸ HH.out.2.1 _ (List.getElem_mem hkl)
      have HQ := hid ((by rw [← hx]; exact (HH.out.2.2.1.far HR.out.2.2 hbl).2 k hkl : LiesAt wr b o k x))
      clear hx
      obtain ⟨c, t, f, d⟩ := x
      obtain ⟨q0, q1, q2, q3⟩ := HQ.out
      simp only at q0 q1 q2 q3
      have hO1 := HR.out.2.1.cell
      obtain ⟨y, hy⟩ : ∃ y, M.strI l k = y := ⟨_, rfl⟩
      have HT := hid (fun lim a1 a2 => cturn_str b o n cap k l HH.out.1 hn HH.out.2.1 HH.out.2.2.2 hlt c t f d h0x lim a1 a2)
      have HS := hid (stY_succ l k)
      rw [hy] at HS
      obtain ⟨yc, yt, yf, yk⟩ := y
      have h4 := (((One.new wr (.int .i64 (k : Int)) 3).alloc (.cells #[.int .u16 c, .int .u8 t, .int .u8 f, .int .u32 d] 38)).alloc (.cells #[.int .i64 (n : Int)] 3))
      have h5 := ((At.new (wr.alloc (.cells #[.int .i64 (k : Int)] 3)) c t f d).alloc (.cells #[.int .i64 (n : Int)] 3))
      have h6 := (One.new ((wr.alloc (.cells #[.int .i64 (k : Int)] 3)).alloc (.cells #[.int .u16 c, .int .u8 t, .int .u8 f, .int .u32 d] 38)) (.int .i64 (n : Int)) 3)
      have hb6 := (al wr (.cells #[.int .i64 (k : Int)] 3)).trans (((al _ (.cells #[.int .u16 c, .int .u8 t, .int .u8 f, .int .u32 d] 38)).trans ((al _ (.cells #[.int .i64 (n : Int)] 3)).mono (al _ _).size)).mono (al _ _).size)
      have s1 : (wr.alloc (.cells #[.int .i64 (k : Int)] 3)).heap.size = wr.heap.size + 1 := by simp
      have s2 : ((wr.alloc (.cells #[.int .i64 (k : Int)] 3)).alloc (.cells #[.int .u16 c, .int .u8 t, .int .u8 f, .int .u32 d] 38)).heap.size = wr.heap.size + 1 + 1 := by simp
      have hO2 := ((HR.out.2.1.alloc (.cells #[.int .i64 (k : Int)] 3)).alloc (.cells #[.int .u16 c, .int .u8 t, .int .u8 f, .int .u32 d] 38)).cell
      rw [s1] at h5
      rw [s2] at h6
      clear s1 s2 h0x
      go_wp2_with fail
      refine (kind_any _ _).mono ?_
      rintro e w6 ⟨rfl, hw6⟩
      subst hw6
      have HG := hid (And.intro (HR.out.1.below hb6) (And.intro (HR.out.2.1.below hb6) (And.intro (stp (hid HR.out.2.2) hb6).out (And.intro h4 (And.intro h5 h6)))))
      clear h4 h5 h6 hb6 hO1 hO2 q0 q1 q2 q3 HQ
      generalize hW6 : ((wr.alloc (.cells #[.int .i64 (k : Int)] 3)).alloc (.cells #[.int .u16 c, .int .u8 t, .int .u8 f, .int .u32 d] 38)).alloc (.cells #[.int .i64 (n : Int)] 3) = W6 at *
      clear hW6
      have hgt : w.heap.size + 1 < wr.heap.size := HR.out.1.lt
      clear HR
      by_cases h12 : M.kind c = 12
      · have d12 : (M.kind c == 12) = true := beq_iff_eq.2 h12
        have c4 := HG.out.2.2.2.1.cell
        have c6 := HG.out.2.2.2.2.2.cell
        have f6 := HG.out.2.2.2.2.2.froz 0
        obtain ⟨W7, hW7⟩ : ∃ W7, W6.setCell ⟨wr.heap.size + 1 + 1, 0, none⟩ (.int .i64 ((k : Int) + 1 + 255)) = W7 := ⟨_, rfl⟩
        replace HG := hid (show Ro W7 (w.heap.size + 1) n (stY l k) ∧ One W7 w.heap.size (.slice (some ⟨b, o, none⟩) n cap) 22 ∧ Below w.heap.size w W7 ∧ One W7 wr.heap.size (.int .i64 (k : Int)) 3 ∧ At W7 (wr.heap.size + 1) c t f d ∧ One W7 (wr.heap.size + 1 + 1) (.int .i64 ((k : Int) + 1 + 255)) 3 from by
          rw [← hW7]
          exact ⟨HG.out.1.off (by omega), HG.out.2.1.off (by omega), HG.out.2.2.1.setCell (by simp; omega) _, HG.out.2.2.2.1.off (by omega), HG.out.2.2.2.2.1.off (by omega), HG.out.2.2.2.2.2.set _⟩)
        go_wp2
        clear c4 c6 f6 hW7
        have HTk := hid (fun Z (hZ : Below W7.heap.size W7 Z) => HT.out ((k : Int) + 1 + 255) (fun _ => by omega) (fun h => absurd h12 h) w.heap.size wr.heap.size (wr.heap.size + 1 + 1) Z ((HG.out.2.1.below hZ).cell) ((HG.out.2.2.2.1.below hZ).cell) ((HG.out.2.2.2.2.2.below hZ).cell) (HH.out.2.2.1.far (stp (hid HG.out.2.2.1) hZ).out hbl) (yc, yt, yf, yk) hy)
        have HK := hid (fun Z (hZ : Below W7.heap.size W7 Z) => And.intro (HG.out.1.below hZ) (And.intro (HG.out.2.1.below hZ) (And.intro (stp (hid HG.out.2.2.1) hZ).out (HG.out.2.2.2.1.below hZ))))
        simp only at HTk
        clear HT hy
        go_wp2
        have HBd := hid ((Below.refl W7.heap.size W7).drew)
        have c4 := ((HK.out _ HBd.out).2.2.2).cell
        obtain ⟨a0, a1, a2, a3, _⟩ := (HG.out.2.2.2.2.1.below HBd.out).cells
        clear HG
        go_region_with (go_at_call 34; refine (HTk.out _ HBd.out).mono ?_; rintro e w8 ⟨rfl, hb⟩; replace HBd := stp HBd hb; clear c4 a0 a1 a2 a3 hb; obtain ⟨hro, hone, hbw, h44⟩ := HK.out _ HBd.out; have c4 := h44.cell; have r0 := hro.c0 k hlt; have r1 := hro.c1 k hlt; have r2 := hro.c2 k hlt; have r3 := hro.c3 k hlt; have f0 := hro.fz (k * 4); have f1 := hro.fz (k * 4 + 1); have f2 := hro.fz (k * 4 + 2); have f3 := hro.fz (k * 4 + 3); clear h44)
        all_goals
          have HF := hid (show Ro (putI w8 (w.heap.size + 1) k yc yt yf yk) (w.heap.size + 1) n (stY l (k + 1)) ∧ One (putI w8 (w.heap.size + 1) k yc yt yf yk) w.heap.size (.slice (some ⟨b, o, none⟩) n cap) 22 ∧ Below w.heap.size w (putI w8 (w.heap.size + 1) k yc yt yf yk) from ⟨(hro.put k hlt yc yt yf yk).congr (fun j _ => (HS.out j).symm), hone.put (by omega), putI_below hbw (by omega)⟩)
          clear r0 r1 r2 r3 f0 f1 f2 f3 c4 HTk HK HBd hro hone hbw HS
          go_wp2
          go_roundw
          case rel => exact ⟨k + 1, by omega, by go_num, HF.out⟩
          case measure => simp [intOf]; omega
      · have d12 : (M.kind c == 12) = false := beq_eq_false_iff_ne.2 h12
        have HTk := hid (fun Z (hZ : Below W6.heap.size W6 Z) => HT.out n (fun h => absurd h h12) (fun _ => rfl) w.heap.size wr.heap.size (wr.heap.size + 1 + 1) Z ((HG.out.2.1.below hZ).cell) ((HG.out.2.2.2.1.below hZ).cell) ((HG.out.2.2.2.2.2.below hZ).cell) (HH.out.2.2.1.far (stp (hid HG.out.2.2.1) hZ).out hbl) (yc, yt, yf, yk) hy)
        have HK := hid (fun Z (hZ : Below W6.heap.size W6 Z) => And.intro (HG.out.1.below hZ) (And.intro (HG.out.2.1.below hZ) (And.intro (stp (hid HG.out.2.2.1) hZ).out (HG.out.2.2.2.1.below hZ))))
        simp only at HTk
        clear HT hy
        go_wp2
        have HBd := hid ((Below.refl W6.heap.size W6).drew)
        have c4 := ((HK.out _ HBd.out).2.2.2).cell
        obtain ⟨a0, a1, a2, a3, _⟩ := (HG.out.2.2.2.2.1.below HBd.out).cells
        clear HG
        go_region_with (go_at_call 34; refine (HTk.out _ HBd.out).mono ?_; rintro e w8 ⟨rfl, hb⟩; replace HBd := stp HBd hb; clear c4 a0 a1 a2 a3 hb; obtain ⟨hro, hone, hbw, h44⟩ := HK.out _ HBd.out; have c4 := h44.cell; have r0 := hro.c0 k hlt; have r1 := hro.c1 k hlt; have r2 := hro.c2 k hlt; have r3 := hro.c3 k hlt; have f0 := hro.fz (k * 4); have f1 := hro.fz (k * 4 + 1); have f2 := hro.fz (k * 4 + 2); have f3 := hro.fz (k * 4 + 3); clear h44)
        all_goals
          have HF := hid (show Ro (putI w8 (w.heap.size + 1) k yc yt yf yk) (w.heap.size + 1) n (stY l (k + 1)) ∧ One (putI w8 (w.heap.size + 1) k yc yt yf yk) w.heap.size (.slice (some ⟨b, o, none⟩) n cap) 22 ∧ Below w.heap.size w (putI w8 (w.heap.size + 1) k yc yt yf yk) from ⟨(hro.put k hlt yc yt yf yk).congr (fun j _ => (HS.out j).symm), hone.put (by omega), putI_below hbw (by omega)⟩)
          clear r0 r1 r2 r3 f0 f1 f2 f3 c4 HTk HK HBd hro hone hbw HS
          go_wp2
          go_roundw
          case rel => exact ⟨k + 1, by omega, by go_num, HF.out⟩
          case measure => simp [intOf]; omega
    · obtain rfl : k = n := by omega
      have HF := hid (show Ro wr (w.heap.size + 1) k (M.strI l) from HR.out.1.congr fun j hj => by unfold stY; rw [if_pos hj])
      go_wp2
      go_ret
      exact ⟨w.heap.size + 1, rfl, HF.out, HR.out.2.2, by omega⟩
end Go.Proofs.Ytfmlefadifpocaa.B
