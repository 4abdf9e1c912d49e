/-
  The instruction whose line it is, in the document's own words, as a walk over the Go text.
-/
import Derived.Test.YtapjjpjiggjlfaaDoorAsmRefP
namespace Go.Proofs.YtapjjpjiggjlfaaDoor.B
open Go.ChangeShapes Go.WideShapes Go.ChangeAt Go.RowKit
open Go.Sort hiding Below
set_option linter.unusedVariables false

/-- what lies there while the codes are gone through: the words, the codes, the result's own block -/
structure Lie (W : World) (b0 g gc : Nat) (ws : List (List UInt8)) : Prop where
  zero : At W b0 0 0 0 0
  wd : ∀ j, j < ws.length → W.cell? ⟨g, j, none⟩ = some (.string ⟨(ws.getD j []).toArray⟩)
  cd : ∀ j, j < 41 → W.cell? ⟨gc, j, none⟩ = some (.int .u16 (M.cd j))
  lt : g < W.heap.size ∧ gc < W.heap.size
theorem Lie.below {W W' : World} {b0 g gc : Nat} {ws : List (List UInt8)} (h : Lie W b0 g gc ws) (hb : Below W.heap.size W W') : Lie W' b0 g gc ws := by
  have := hb.size
  exact ⟨h.zero.below hb, fun j hj => by rw [hb.cell h.lt.1]; exact h.wd j hj, fun j hj => by rw [hb.cell h.lt.2]; exact h.cd j hj, by have := h.lt; omega⟩

theorem Lie.off {W : World} {b0 g gc b k : Nat} {ws : List (List UInt8)} {v : Value} (h : Lie W b0 g gc ws) (hn : b0 ≠ b ∧ g ≠ b ∧ gc ≠ b) : Lie (W.setCell ⟨b, k, none⟩ v) b0 g gc ws := by
  have hc : ∀ x y, x ≠ b → (W.setCell ⟨b, k, none⟩ v).cell? ⟨x, y, none⟩ = W.cell? ⟨x, y, none⟩ := fun x y hx => World.cell?_of_block (Below.heap_setCell _ _ _ _ hx)
  refine ⟨h.zero.off hn.1, fun j hj => by rw [hc _ _ hn.2.1]; exact h.wd j hj, fun j hj => by rw [hc _ _ hn.2.2]; exact h.cd j hj, ?_⟩
  have := h.lt
  simp; exact this
theorem stp3 {w a b : World} {q : Nat} {n : Int} (h : Hid (Below w.heap.size w a)) (hq : w.heap.size ≤ q) (h' : Below (a.setCell ⟨q, 3, none⟩ (.int .u32 n)).heap.size (a.setCell ⟨q, 3, none⟩ (.int .u32 n)) b) : Hid (Below w.heap.size w b) := (h.out.setCell hq _).trans (h'.mono (h.out.setCell hq _).size)

set_option maxHeartbeats 12800000 in
set_option maxRecDepth 1000000 in
theorem rparse_any (s : ByteArray) (hs : s.size ≤ 100000) (w : World) :
    Calls Tryd.prog 13 #[.string s] w fun e w' => e = .returned (.tuple #[.agg #[.int .u16 (M.pv (M.parse s.data.toList)).1, .int .u8 (M.pv (M.parse s.data.toList)).2.1, .int .u8 (M.pv (M.parse s.data.toList)).2.2.1, .int .u32 (M.pv (M.parse s.data.toList)).2.2.2], .bool (M.parse s.data.toList).isSome]) ∧ Below w.heap.size w w' := by
  obtain ⟨l, hl⟩ : ∃ l, l = s.data.toList := ⟨_, rfl⟩
  have cW := fun w => words_any s hs w
  rw [← hl] at cW ⊢
  obtain ⟨ws, hws⟩ : ∃ ws, ws = M.words l := ⟨_, rfl⟩
  have hw0 := M.words_head l
  rw [← hws] at cW hw0
  obtain ⟨n, hn⟩ : ∃ n, n = ws.length := ⟨_, rfl⟩
  have hn0 : 0 < n := by rw [hn, hws]; exact List.length_pos_iff.2 (M.words_ne l)
  have hnl : n ≤ 100001 := by
    rw [hn, hws]
    have := M.words_len l
    have e : s.size = l.length := by rw [bdl, hl]
    omega
  rw [← hn] at cW
  obtain ⟨X, hX⟩ : ∃ X, X = M.parse l := ⟨_, rfl⟩
  rw [← hX]
  obtain ⟨w0, hw00⟩ : ∃ w0, w0 = M.bef 32 l := ⟨_, rfl⟩
  rw [← hw00] at hw0
  have HX := Lib.hid hX
  have HW := Lib.hid hws
  have HZ := Lib.hid hw00
  have HV := Lib.hid hw0
  have HL := Lib.hid hl
  have HNN := Lib.hid hn
  clear hX hws hw00 hl hw0 hn
  go_enter Tryd.func13, Tryd.ntmps13
  go_wp2_with (go_at_call 31; refine (cW _).mono ?_; rintro e w1 ⟨g, cap, rfl, hown, hb⟩; have HB1 := Lib.hid (And.intro hown hb); clear hown hb)
  go_at_call 32
  refine (rall_any _).mono ?_
  rintro e W ⟨rfl, hW⟩
  have HA0 : Hid (Below w1.heap.size w1 W ∧ ∀ j : Nat, j < 41 → W.cell? ⟨w1.heap.size, j, none⟩ = some (.int .u16 (M.cd j))) := by
    rw [hW]
    refine ⟨(Below.refl _ w1).alloc (Nat.le_refl _) _, fun j hj => ?_⟩
    rw [cell_lit, List.getElem?_map, M.cd_get ⟨j, hj⟩]; rfl
  have hsz : W.heap.size = w1.heap.size + 1 := by rw [hW]; simp
  clear hW
  have HLie : Hid (Lie W w.heap.size g w1.heap.size ws) := by
    have hn' := HNN.out
    obtain ⟨g', cap', e, hbb, hlt⟩ := HB1.out.1.form (by omega)
    cases e
    refine ⟨((At.new w 0 0 0 0).below HB1.out.2).below HA0.out.1, fun j hj => ?_, HA0.out.2, by omega⟩
    rw [HA0.out.1.cell hlt, HB1.out.1.cellAt j (by omega)]
    simp only [svs, List.getElem?_map, List.getD_eq_getElem?_getD]
    rw [List.getElem?_eq_getElem hj]
    rfl
  have HB : Hid (Below w.heap.size w W) := (((Below.refl _ w).alloc (Nat.le_refl _) _).trans (HB1.out.2.mono (by simp))).trans (HA0.out.1.mono (by have := HB1.out.2.size; simp at this; omega))
  have hle : w.heap.size ≤ W.heap.size := HB.out.size
  generalize w1.heap.size = gc at *
  clear HB1 HA0 hsz
  go_wp2
  go_loopw [6] (fun i wr => ∃ j : Nat, j ≤ 41 ∧ i = .int .i64 (j : Int) ∧ Hid (Below W.heap.size W wr ∧ ∀ q, q < j → M.nm q ≠ w0)) (fun i _ => (41 - intOf i).toNat)
  case atStart => exact ⟨0, by omega, rfl, Below.refl _ _, fun q hq => by omega⟩
  case round =>
    obtain ⟨j, hj, rfl, HR⟩ := hrel
    have hLr := Lib.hid (HLie.out.below HR.out.1)
    have hBr := Lib.hid (HB.out.trans (HR.out.1.mono hle))
    by_cases h41 : j < 41
    · have i1 : (j : Int) < 41 := by omega
      have i2 : (0 : Int) < n := by omega
      have hc := hLr.out.cd j h41
      have hv : wr.cell? ⟨g, 0, none⟩ = some (.string ⟨w0.toArray⟩) := by
        rw [hLr.out.wd 0 (by rw [← HNN.out]; omega), List.getD_eq_getElem?_getD, HV.out]; rfl
      have HNm : Hid (∀ d os, Calls Tryd.prog 24 #[.int .u16 (M.cd j)] (grow (redrawn wr d) os) fun e w'' => e = .returned (.string ⟨(M.name (M.cd j)).toArray⟩) ∧ ∃ p : Regrown, w'' = grow (redrawn wr p.d) p.os) := fun d os => Calls.regrown_of (rname_any _ _)
      rw [← M.nm_eq ⟨j, h41⟩] at HNm
      obtain ⟨N, hN⟩ : ∃ N : ByteArray, N = ⟨(M.nm j).toArray⟩ := ⟨_, rfl⟩
      obtain ⟨N0, hN0⟩ : ∃ N0 : ByteArray, N0 = ⟨w0.toArray⟩ := ⟨_, rfl⟩
      rw [← hN] at HNm
      rw [← hN0] at hv
      have kc := cell_regrown hc
      have kv := cell_regrown hv
      go_wp2_with fail
      by_cases he : M.nm j = w0
      · have hq : (N.toList == N0.toList) = true := by rw [hN, hN0, he]; simp
        have HE := Lib.hid he
        clear he hN hN0
        refine wp_region_quiet_below (by kernel_rfl) (by kernel_rfl) ?_
        repeat (quiet_step (exact HNm.out _ _))
        refine wpQuiet_nil ?_
        intro w4 hw4
        have hb : Below wr.heap.size wr w4 := by obtain ⟨⟨d, os⟩, rfl⟩ := hw4; exact below_regrown _ _ _
        have hL4 := Lib.hid (hLr.out.below hb)
        have hB4 := Lib.hid (hBr.out.trans (hb.mono hBr.out.size))
        clear hb hw4 kc kv HNm
        have hc4 := hL4.out.cd j h41
        obtain ⟨c, hcc⟩ : ∃ c, c = M.cd j := ⟨_, rfl⟩
        rw [← hcc] at hc4
        have hm := M.nm_tbl h41 HE.out
        rw [← hcc, HZ.out] at hm
        have hpx := M.parse_rx hm
        rw [← HX.out, ← HW.out] at hpx
        have hcb := M.vals_small _ hm
        simp only at hcb
        have HP := Lib.hid hpx
        clear hpx hm hc hv hq
        have HCD : Hid (∀ W, Lie W w.heap.size g gc ws → W.cell? ⟨gc, j, none⟩ = some (.int .u16 c)) := fun W h => by rw [hcc]; exact h.cd j h41
        clear hcc
        have hc4a : ∀ o, (w4.alloc o).cell? ⟨gc, j, none⟩ = some (.int .u16 c) := fun o => HCD.out _ (hL4.out.below ((Below.refl _ _).alloc (Nat.le_refl _) _))
        have hnl4 : w.heap.size ≤ w4.heap.size := hB4.out.size
        have hnb : w.heap.size ≠ w4.heap.size ∧ g ≠ w4.heap.size ∧ gc ≠ w4.heap.size := by have h1 := hL4.out.zero.lt; have h2 := hL4.out.lt; omega
        have hnb1 : ¬ g = w4.heap.size := hnb.2.1
        have hnb2 : ¬ gc = w4.heap.size := hnb.2.2
        obtain ⟨S1, hS1⟩ : ∃ S : ByteArray, S = ⟨(ws.getD 1 []).toArray⟩ := ⟨_, rfl⟩
        obtain ⟨v1, hv1⟩ : ∃ v, M.rv (ws.getD 1 []) = v := ⟨_, rfl⟩
        have vb1 := M.rv_bd (ws.getD 1 [])
        rw [hv1] at vb1
        obtain ⟨S2, hS2⟩ : ∃ S : ByteArray, S = ⟨(ws.getD 2 []).toArray⟩ := ⟨_, rfl⟩
        obtain ⟨v2, hv2⟩ : ∃ v, M.rv (ws.getD 2 []) = v := ⟨_, rfl⟩
        have vb2 := M.rv_bd (ws.getD 2 [])
        rw [hv2] at vb2
        obtain ⟨S3, hS3⟩ : ∃ S : ByteArray, S = ⟨(ws.getD 3 []).toArray⟩ := ⟨_, rfl⟩
        obtain ⟨v3, hv3⟩ : ∃ v, M.rv (ws.getD 3 []) = v := ⟨_, rfl⟩
        have vb3 := M.rv_bd (ws.getD 3 [])
        rw [hv3] at vb3
        have cV : ∀ (q : Nat) (S : ByteArray) (v : Int), S = ⟨(ws.getD q []).toArray⟩ → M.rv (ws.getD q []) = v → ∀ w, Calls Tryd.prog 33 #[.string S] w fun e w' => e = .returned (.int .u32 v) ∧ w' = w := by
          intro q S v h1 h2 w
          have hsz : S.size ≤ 100000 := by
            rw [h1, bar]
            have hl : s.size = l.length := by rw [bdl, HL.out]
            by_cases hq : q < ws.length
            · have := M.words_size l (ws.getD q []) (by rw [← HW.out, List.getD_eq_getElem?_getD, List.getElem?_eq_getElem hq]; exact List.getElem_mem hq)
              omega
            · rw [List.getD_eq_getElem?_getD, List.getElem?_eq_none (by omega)]; simp
          have := value_any S hsz w
          rw [show S.data.toList = ws.getD q [] by rw [h1], h2] at this
          exact this
        cases hk : M.hasK c with
        | false =>
          cases hj : M.jif c with
          | false =>
            have hrat : M.rat c ws = 1 := by unfold M.rat; rw [if_neg (fun h => by have h1 := h.1; rw [hk] at h1; cases h1)]
            have hrk : M.rk c ws = 0 := by unfold M.rk; rw [if_neg (fun h => by have h1 := h.1; rw [hk] at h1; cases h1)]
            have hrt : M.rt c ws = 0 := by unfold M.rt; rw [hrat, if_neg (fun h => by have h1 := h.1; rw [hj] at h1; cases h1)]
            have hrf : M.rf c ws = 0 := by unfold M.rf; rw [hrat, if_neg (fun h => by have h1 := h.1; rw [hj] at h1; cases h1)]
            have hrx : M.rx c ws = (c, 0, 0, 0) := by unfold M.rx; rw [hrt, hrf, hrk]
            clear hrat hrk hrt hrf
            have okx := M.rx_ok hcb.1 (by omega) ws
            rw [hrx] at okx HP
            have hj' := hj
            unfold M.jif at hj'
            have cH := fun w => rhask_any c hcb.1 (by omega) w
            rw [hk] at cH
            have cJ := fun w => rkind_any c hcb.1 (by omega) w
            have HOK := Lib.hid okx
            have HRX := Lib.hid hcb
            clear okx hrx hcb cV hS1 hS2 hS3 hv1 hv2 hv3
            go_wp2_with (first
              | (go_at_call 26; refine (cH _).mono ?_; rintro e w5 ⟨rfl, hb⟩; have hD := (At.new w4 c 0 0 0).below hb; have hL := Lib.hid ((hL4.out.below ((Below.refl _ _).alloc (Nat.le_refl _) _)).below hb); have hB := Lib.hid ((hB4.out.alloc hB4.out.size _).trans (hb.mono (by have := hB4.out.size; simp; omega))); clear hb; obtain ⟨d0, d1, d2, d3, d4⟩ := hD.cells; have hc5 := HCD.out _ hL.out)
              | (go_at_call 25; refine (cJ _).mono ?_; rintro e w6 ⟨rfl, hb⟩; have hL := Lib.hid (hL.out.below hb); have hD := hD.below hb; have hB := stp hB hb; clear hb; obtain ⟨d0, d1, d2, d3, d4⟩ := hD.cells))
            go_at_call 11
            refine (rline_any c (0) (0) 0 HOK.out _).mono ?_
            rintro e w9 ⟨rfl, hb⟩
            have hL := Lib.hid (hL.out.below hb); have hD := hD.below hb; have hB := stp hB hb
            clear hb
            have hA := hL.out.zero
            obtain ⟨d0, d1, d2, d3, d4⟩ := hD.cells
            obtain ⟨a0, a1, a2, a3, a4⟩ := hA.cells
            obtain ⟨q, hq⟩ : ∃ q, q = M.line (c, 0, 0, 0) := ⟨_, rfl⟩
            rw [← hq] at HP ⊢
            obtain ⟨T, hT⟩ : ∃ T : ByteArray, T = ⟨q.1.toArray⟩ := ⟨_, rfl⟩
            obtain ⟨er, her⟩ : ∃ er, er = q.2 := ⟨_, rfl⟩
            rw [← hT, ← her]
            have HPX := HP.out
            clear hq
            by_cases hz : er = 0
            · have hz' : (er != 0) = false := by rw [hz]; rfl
              by_cases ht : q.1 = l
              · have ht' : (T.toList == s.toList) = true := by rw [hT, ByteArray.toList_mk, ByteArray.toList_eq, ← HL.out, ht]; simp
                have hq2 : q = (l, 0) := Prod.ext ht (by rw [← her]; exact hz)
                rw [if_pos hq2] at HPX
                have HPP := Lib.hid HPX
                clear HPX hq2 HP hT her ht
                go_wp2
                refine bodyPost_ret (results_cell (c := c) (t := 0) (f := 0) (k := 0) rfl _ _ rfl (hA.put c (0) (0) 0)) rfl ?_
                rw [HPP.out]
                exact ⟨rfl, put_below hB.out (Nat.le_refl _)⟩
              · have ht' : (T.toList == s.toList) = false := by rw [hT, ByteArray.toList_mk, ByteArray.toList_eq, ← HL.out]; simpa using ht
                rw [if_neg (fun e => ht (by rw [e]))] at HPX
                have HPP := Lib.hid HPX
                clear HPX HP hT her ht
                go_wp2
                refine bodyPost_ret (results_cell (c := 0) (t := 0) (f := 0) (k := 0) rfl _ _ rfl (hA.put 0 0 0 0)) rfl ?_
                rw [HPP.out]
                exact ⟨rfl, put_below hB.out (Nat.le_refl _)⟩
            · have hz' : (er != 0) = true := by simpa using hz
              rw [if_neg (fun e => hz (by rw [her, e]))] at HPX
              have HPP := Lib.hid HPX
              clear HPX HP hT her
              go_wp2
              refine bodyPost_ret (results_cell (c := 0) (t := 0) (f := 0) (k := 0) rfl _ _ rfl (hA.put 0 0 0 0)) rfl ?_
              rw [HPP.out]
              exact ⟨rfl, put_below hB.out (Nat.le_refl _)⟩
          | true =>
            by_cases hlen2 : 1 + 1 < n
            · skip
              have q1 : ∀ W, Lie W w.heap.size g gc ws → W.cell? ⟨g, 1, none⟩ = some (.string S1) := fun W h => by rw [hS1]; exact h.wd 1 (by rw [← HNN.out]; omega)
              have q2 : ∀ W, Lie W w.heap.size g gc ws → W.cell? ⟨g, 2, none⟩ = some (.string S2) := fun W h => by rw [hS2]; exact h.wd 2 (by rw [← HNN.out]; omega)
              have hrat : M.rat c ws = 1 := by unfold M.rat; rw [if_neg (fun h => by have h1 := h.1; rw [hk] at h1; cases h1)]
              have hrk : M.rk c ws = 0 := by unfold M.rk; rw [if_neg (fun h => by have h1 := h.1; rw [hk] at h1; cases h1)]
              have hrt : M.rt c ws = v1 % 256 := by unfold M.rt; rw [hrat, if_pos ⟨hj, by have h1 := HNN.out; omega⟩, hv1]
              have hrf : M.rf c ws = v2 % 256 := by unfold M.rf; rw [hrat, if_pos ⟨hj, by have h1 := HNN.out; omega⟩, hv2]
              have hrx : M.rx c ws = (c, v1 % 256, v2 % 256, 0) := by unfold M.rx; rw [hrt, hrf, hrk]
              clear hrat hrk hrt hrf
              have okx := M.rx_ok hcb.1 (by omega) ws
              rw [hrx] at okx HP
              have hj' := hj
              unfold M.jif at hj'
              have cH := fun w => rhask_any c hcb.1 (by omega) w
              rw [hk] at cH
              have cJ := fun w => rkind_any c hcb.1 (by omega) w
              have cV1 : ∀ w, Calls Tryd.prog 33 #[.string S1] w fun e w' => e = .returned (.int .u32 v1) ∧ w' = w := cV 1 _ _ hS1 hv1
              have cV2 : ∀ w, Calls Tryd.prog 33 #[.string S2] w fun e w' => e = .returned (.int .u32 v2) ∧ w' = w := cV 2 _ _ hS2 hv2
              have i4 : (1 : Int) + 1 < n := by omega
              have i5 : (2 : Int) < n := by omega
              have i6 : (1 : Int) < n := by omega
              have HOK := Lib.hid okx
              have HRX := Lib.hid hcb
              have HQ1 := Lib.hid q1
              have HQ2 := Lib.hid q2
              clear q1 q2
              clear okx hrx hcb cV hS1 hS2 hS3 hv1 hv2 hv3
              go_wp2_with (first
                | (go_at_call 26; refine (cH _).mono ?_; rintro e w5 ⟨rfl, hb⟩; have hD := (At.new w4 c 0 0 0).below hb; have hL := Lib.hid ((hL4.out.below ((Below.refl _ _).alloc (Nat.le_refl _) _)).below hb); have hB := Lib.hid ((hB4.out.alloc hB4.out.size _).trans (hb.mono (by have := hB4.out.size; simp; omega))); clear hb; obtain ⟨d0, d1, d2, d3, d4⟩ := hD.cells; have hc5 := HCD.out _ hL.out)
                | (go_at_call 25; refine (cJ _).mono ?_; rintro e w6 ⟨rfl, hb⟩; have hL := Lib.hid (hL.out.below hb); have hD := hD.below hb; have hB := stp hB hb; clear hb; obtain ⟨d0, d1, d2, d3, d4⟩ := hD.cells; have g1 := HQ1.out _ hL.out; have g2 := HQ2.out _ hL.out)
                | (go_at_call_of 33 (Value.string S1); refine (cV1 _).mono ?_; rintro e wx ⟨rfl, rfl⟩)
                | (go_at_call_of 33 (Value.string S2); refine (cV2 _).mono ?_; rintro e wx ⟨rfl, rfl⟩))
              go_at_call 11
              refine (rline_any c (v1 % 256) (v2 % 256) 0 HOK.out _).mono ?_
              rintro e w9 ⟨rfl, hb⟩
              have hL := Lib.hid (((hL.out.off hnb).off hnb).below hb); have hD := ((hD.set1 (v1 % 256)).set2 (v2 % 256)).below hb; have hB := Lib.hid (((hB.out.setCell hnl4 _).setCell hnl4 _).trans (hb.mono ((hB.out.setCell hnl4 _).setCell hnl4 _).size))
              clear hb
              have hA := hL.out.zero
              obtain ⟨d0, d1, d2, d3, d4⟩ := hD.cells
              obtain ⟨a0, a1, a2, a3, a4⟩ := hA.cells
              obtain ⟨q, hq⟩ : ∃ q, q = M.line (c, v1 % 256, v2 % 256, 0) := ⟨_, rfl⟩
              rw [← hq] at HP ⊢
              obtain ⟨T, hT⟩ : ∃ T : ByteArray, T = ⟨q.1.toArray⟩ := ⟨_, rfl⟩
              obtain ⟨er, her⟩ : ∃ er, er = q.2 := ⟨_, rfl⟩
              rw [← hT, ← her]
              have HPX := HP.out
              clear hq
              by_cases hz : er = 0
              · have hz' : (er != 0) = false := by rw [hz]; rfl
                by_cases ht : q.1 = l
                · have ht' : (T.toList == s.toList) = true := by rw [hT, ByteArray.toList_mk, ByteArray.toList_eq, ← HL.out, ht]; simp
                  have hq2 : q = (l, 0) := Prod.ext ht (by rw [← her]; exact hz)
                  rw [if_pos hq2] at HPX
                  have HPP := Lib.hid HPX
                  clear HPX hq2 HP hT her ht
                  go_wp2
                  refine bodyPost_ret (results_cell (c := c) (t := v1 % 256) (f := v2 % 256) (k := 0) rfl _ _ rfl (hA.put c (v1 % 256) (v2 % 256) 0)) rfl ?_
                  rw [HPP.out]
                  exact ⟨rfl, put_below hB.out (Nat.le_refl _)⟩
                · have ht' : (T.toList == s.toList) = false := by rw [hT, ByteArray.toList_mk, ByteArray.toList_eq, ← HL.out]; simpa using ht
                  rw [if_neg (fun e => ht (by rw [e]))] at HPX
                  have HPP := Lib.hid HPX
                  clear HPX HP hT her ht
                  go_wp2
                  refine bodyPost_ret (results_cell (c := 0) (t := 0) (f := 0) (k := 0) rfl _ _ rfl (hA.put 0 0 0 0)) rfl ?_
                  rw [HPP.out]
                  exact ⟨rfl, put_below hB.out (Nat.le_refl _)⟩
              · have hz' : (er != 0) = true := by simpa using hz
                rw [if_neg (fun e => hz (by rw [her, e]))] at HPX
                have HPP := Lib.hid HPX
                clear HPX HP hT her
                go_wp2
                refine bodyPost_ret (results_cell (c := 0) (t := 0) (f := 0) (k := 0) rfl _ _ rfl (hA.put 0 0 0 0)) rfl ?_
                rw [HPP.out]
                exact ⟨rfl, put_below hB.out (Nat.le_refl _)⟩
            · skip
              have hrat : M.rat c ws = 1 := by unfold M.rat; rw [if_neg (fun h => by have h1 := h.1; rw [hk] at h1; cases h1)]
              have hrk : M.rk c ws = 0 := by unfold M.rk; rw [if_neg (fun h => by have h1 := h.1; rw [hk] at h1; cases h1)]
              have hrt : M.rt c ws = 0 := by unfold M.rt; rw [hrat, if_neg (fun h => by have h1 := HNN.out; have h2 := h.2; omega)]
              have hrf : M.rf c ws = 0 := by unfold M.rf; rw [hrat, if_neg (fun h => by have h1 := HNN.out; have h2 := h.2; omega)]
              have hrx : M.rx c ws = (c, 0, 0, 0) := by unfold M.rx; rw [hrt, hrf, hrk]
              clear hrat hrk hrt hrf
              have okx := M.rx_ok hcb.1 (by omega) ws
              rw [hrx] at okx HP
              have hj' := hj
              unfold M.jif at hj'
              have cH := fun w => rhask_any c hcb.1 (by omega) w
              rw [hk] at cH
              have cJ := fun w => rkind_any c hcb.1 (by omega) w
              have i4 : ¬ (1 : Int) + 1 < n := by omega
              have i5 : ¬ (2 : Int) < n := by omega
              have HOK := Lib.hid okx
              have HRX := Lib.hid hcb
              clear okx hrx hcb cV hS1 hS2 hS3 hv1 hv2 hv3
              go_wp2_with (first
                | (go_at_call 26; refine (cH _).mono ?_; rintro e w5 ⟨rfl, hb⟩; have hD := (At.new w4 c 0 0 0).below hb; have hL := Lib.hid ((hL4.out.below ((Below.refl _ _).alloc (Nat.le_refl _) _)).below hb); have hB := Lib.hid ((hB4.out.alloc hB4.out.size _).trans (hb.mono (by have := hB4.out.size; simp; omega))); clear hb; obtain ⟨d0, d1, d2, d3, d4⟩ := hD.cells; have hc5 := HCD.out _ hL.out)
                | (go_at_call 25; refine (cJ _).mono ?_; rintro e w6 ⟨rfl, hb⟩; have hL := Lib.hid (hL.out.below hb); have hD := hD.below hb; have hB := stp hB hb; clear hb; obtain ⟨d0, d1, d2, d3, d4⟩ := hD.cells))
              go_at_call 11
              refine (rline_any c (0) (0) 0 HOK.out _).mono ?_
              rintro e w9 ⟨rfl, hb⟩
              have hL := Lib.hid (hL.out.below hb); have hD := hD.below hb; have hB := stp hB hb
              clear hb
              have hA := hL.out.zero
              obtain ⟨d0, d1, d2, d3, d4⟩ := hD.cells
              obtain ⟨a0, a1, a2, a3, a4⟩ := hA.cells
              obtain ⟨q, hq⟩ : ∃ q, q = M.line (c, 0, 0, 0) := ⟨_, rfl⟩
              rw [← hq] at HP ⊢
              obtain ⟨T, hT⟩ : ∃ T : ByteArray, T = ⟨q.1.toArray⟩ := ⟨_, rfl⟩
              obtain ⟨er, her⟩ : ∃ er, er = q.2 := ⟨_, rfl⟩
              rw [← hT, ← her]
              have HPX := HP.out
              clear hq
              by_cases hz : er = 0
              · have hz' : (er != 0) = false := by rw [hz]; rfl
                by_cases ht : q.1 = l
                · have ht' : (T.toList == s.toList) = true := by rw [hT, ByteArray.toList_mk, ByteArray.toList_eq, ← HL.out, ht]; simp
                  have hq2 : q = (l, 0) := Prod.ext ht (by rw [← her]; exact hz)
                  rw [if_pos hq2] at HPX
                  have HPP := Lib.hid HPX
                  clear HPX hq2 HP hT her ht
                  go_wp2
                  refine bodyPost_ret (results_cell (c := c) (t := 0) (f := 0) (k := 0) rfl _ _ rfl (hA.put c (0) (0) 0)) rfl ?_
                  rw [HPP.out]
                  exact ⟨rfl, put_below hB.out (Nat.le_refl _)⟩
                · have ht' : (T.toList == s.toList) = false := by rw [hT, ByteArray.toList_mk, ByteArray.toList_eq, ← HL.out]; simpa using ht
                  rw [if_neg (fun e => ht (by rw [e]))] at HPX
                  have HPP := Lib.hid HPX
                  clear HPX HP hT her ht
                  go_wp2
                  refine bodyPost_ret (results_cell (c := 0) (t := 0) (f := 0) (k := 0) rfl _ _ rfl (hA.put 0 0 0 0)) rfl ?_
                  rw [HPP.out]
                  exact ⟨rfl, put_below hB.out (Nat.le_refl _)⟩
              · have hz' : (er != 0) = true := by simpa using hz
                rw [if_neg (fun e => hz (by rw [her, e]))] at HPX
                have HPP := Lib.hid HPX
                clear HPX HP hT her
                go_wp2
                refine bodyPost_ret (results_cell (c := 0) (t := 0) (f := 0) (k := 0) rfl _ _ rfl (hA.put 0 0 0 0)) rfl ?_
                rw [HPP.out]
                exact ⟨rfl, put_below hB.out (Nat.le_refl _)⟩
        | true =>
          by_cases hlen : 1 < n
          · skip
            cases hj : M.jif c with
            | false =>
              have q1 : ∀ W, Lie W w.heap.size g gc ws → W.cell? ⟨g, 1, none⟩ = some (.string S1) := fun W h => by rw [hS1]; exact h.wd 1 (by rw [← HNN.out]; omega)
              have hrat : M.rat c ws = 2 := by unfold M.rat; rw [if_pos ⟨hk, by have h1 := HNN.out; omega⟩]
              have hrk : M.rk c ws = v1 := by unfold M.rk; rw [if_pos ⟨hk, by have h1 := HNN.out; omega⟩, hv1]
              have hrt : M.rt c ws = 0 := by unfold M.rt; rw [hrat, if_neg (fun h => by have h1 := h.1; rw [hj] at h1; cases h1)]
              have hrf : M.rf c ws = 0 := by unfold M.rf; rw [hrat, if_neg (fun h => by have h1 := h.1; rw [hj] at h1; cases h1)]
              have hrx : M.rx c ws = (c, 0, 0, v1) := by unfold M.rx; rw [hrt, hrf, hrk]
              clear hrat hrk hrt hrf
              have okx := M.rx_ok hcb.1 (by omega) ws
              rw [hrx] at okx HP
              have hj' := hj
              unfold M.jif at hj'
              have cH := fun w => rhask_any c hcb.1 (by omega) w
              rw [hk] at cH
              have cJ := fun w => rkind_any c hcb.1 (by omega) w
              have cV1 : ∀ w, Calls Tryd.prog 33 #[.string S1] w fun e w' => e = .returned (.int .u32 v1) ∧ w' = w := cV 1 _ _ hS1 hv1
              have i3 : (1 : Int) < n := by omega
              have HOK := Lib.hid okx
              have HRX := Lib.hid hcb
              have HQ1 := Lib.hid q1
              clear q1
              clear okx hrx hcb cV hS1 hS2 hS3 hv1 hv2 hv3
              go_wp2_with (first
                | (go_at_call 26; refine (cH _).mono ?_; rintro e w5 ⟨rfl, hb⟩; have hD := (At.new w4 c 0 0 0).below hb; have hL := Lib.hid ((hL4.out.below ((Below.refl _ _).alloc (Nat.le_refl _) _)).below hb); have hB := Lib.hid ((hB4.out.alloc hB4.out.size _).trans (hb.mono (by have := hB4.out.size; simp; omega))); clear hb; obtain ⟨d0, d1, d2, d3, d4⟩ := hD.cells; have hc5 := HCD.out _ hL.out; have g1 := HQ1.out _ hL.out)
                | (go_at_call_of 33 (Value.string S1); refine (cV1 _).mono ?_; rintro e wx ⟨rfl, rfl⟩)
                | (go_at_call 25; refine (cJ _).mono ?_; rintro e w6 ⟨rfl, hb⟩; have hL := Lib.hid ((hL.out.off hnb).below hb); have hD := (hD.set3 v1).below hb; have hB := stp3 hB hnl4 hb; clear hb; obtain ⟨d0, d1, d2, d3, d4⟩ := hD.cells))
              go_at_call 11
              refine (rline_any c (0) (0) v1 HOK.out _).mono ?_
              rintro e w9 ⟨rfl, hb⟩
              have hL := Lib.hid (hL.out.below hb); have hD := hD.below hb; have hB := stp hB hb
              clear hb
              have hA := hL.out.zero
              obtain ⟨d0, d1, d2, d3, d4⟩ := hD.cells
              obtain ⟨a0, a1, a2, a3, a4⟩ := hA.cells
              obtain ⟨q, hq⟩ : ∃ q, q = M.line (c, 0, 0, v1) := ⟨_, rfl⟩
              rw [← hq] at HP ⊢
              obtain ⟨T, hT⟩ : ∃ T : ByteArray, T = ⟨q.1.toArray⟩ := ⟨_, rfl⟩
              obtain ⟨er, her⟩ : ∃ er, er = q.2 := ⟨_, rfl⟩
              rw [← hT, ← her]
              have HPX := HP.out
              clear hq
              by_cases hz : er = 0
              · have hz' : (er != 0) = false := by rw [hz]; rfl
                by_cases ht : q.1 = l
                · have ht' : (T.toList == s.toList) = true := by rw [hT, ByteArray.toList_mk, ByteArray.toList_eq, ← HL.out, ht]; simp
                  have hq2 : q = (l, 0) := Prod.ext ht (by rw [← her]; exact hz)
                  rw [if_pos hq2] at HPX
                  have HPP := Lib.hid HPX
                  clear HPX hq2 HP hT her ht
                  go_wp2
                  refine bodyPost_ret (results_cell (c := c) (t := 0) (f := 0) (k := v1) rfl _ _ rfl (hA.put c (0) (0) v1)) rfl ?_
                  rw [HPP.out]
                  exact ⟨rfl, put_below hB.out (Nat.le_refl _)⟩
                · have ht' : (T.toList == s.toList) = false := by rw [hT, ByteArray.toList_mk, ByteArray.toList_eq, ← HL.out]; simpa using ht
                  rw [if_neg (fun e => ht (by rw [e]))] at HPX
                  have HPP := Lib.hid HPX
                  clear HPX HP hT her ht
                  go_wp2
                  refine bodyPost_ret (results_cell (c := 0) (t := 0) (f := 0) (k := 0) rfl _ _ rfl (hA.put 0 0 0 0)) rfl ?_
                  rw [HPP.out]
                  exact ⟨rfl, put_below hB.out (Nat.le_refl _)⟩
              · have hz' : (er != 0) = true := by simpa using hz
                rw [if_neg (fun e => hz (by rw [her, e]))] at HPX
                have HPP := Lib.hid HPX
                clear HPX HP hT her
                go_wp2
                refine bodyPost_ret (results_cell (c := 0) (t := 0) (f := 0) (k := 0) rfl _ _ rfl (hA.put 0 0 0 0)) rfl ?_
                rw [HPP.out]
                exact ⟨rfl, put_below hB.out (Nat.le_refl _)⟩
            | true =>
              by_cases hlen2 : 2 + 1 < n
              · skip
                have q1 : ∀ W, Lie W w.heap.size g gc ws → W.cell? ⟨g, 1, none⟩ = some (.string S1) := fun W h => by rw [hS1]; exact h.wd 1 (by rw [← HNN.out]; omega)
                have q2 : ∀ W, Lie W w.heap.size g gc ws → W.cell? ⟨g, 2, none⟩ = some (.string S2) := fun W h => by rw [hS2]; exact h.wd 2 (by rw [← HNN.out]; omega)
                have q3 : ∀ W, Lie W w.heap.size g gc ws → W.cell? ⟨g, 3, none⟩ = some (.string S3) := fun W h => by rw [hS3]; exact h.wd 3 (by rw [← HNN.out]; omega)
                have hrat : M.rat c ws = 2 := by unfold M.rat; rw [if_pos ⟨hk, by have h1 := HNN.out; omega⟩]
                have hrk : M.rk c ws = v1 := by unfold M.rk; rw [if_pos ⟨hk, by have h1 := HNN.out; omega⟩, hv1]
                have hrt : M.rt c ws = v2 % 256 := by unfold M.rt; rw [hrat, if_pos ⟨hj, by have h1 := HNN.out; omega⟩, hv2]
                have hrf : M.rf c ws = v3 % 256 := by unfold M.rf; rw [hrat, if_pos ⟨hj, by have h1 := HNN.out; omega⟩, hv3]
                have hrx : M.rx c ws = (c, v2 % 256, v3 % 256, v1) := by unfold M.rx; rw [hrt, hrf, hrk]
                clear hrat hrk hrt hrf
                have okx := M.rx_ok hcb.1 (by omega) ws
                rw [hrx] at okx HP
                have hj' := hj
                unfold M.jif at hj'
                have cH := fun w => rhask_any c hcb.1 (by omega) w
                rw [hk] at cH
                have cJ := fun w => rkind_any c hcb.1 (by omega) w
                have cV1 : ∀ w, Calls Tryd.prog 33 #[.string S1] w fun e w' => e = .returned (.int .u32 v1) ∧ w' = w := cV 1 _ _ hS1 hv1
                have cV2 : ∀ w, Calls Tryd.prog 33 #[.string S2] w fun e w' => e = .returned (.int .u32 v2) ∧ w' = w := cV 2 _ _ hS2 hv2
                have cV3 : ∀ w, Calls Tryd.prog 33 #[.string S3] w fun e w' => e = .returned (.int .u32 v3) ∧ w' = w := cV 3 _ _ hS3 hv3
                have i3 : (1 : Int) < n := by omega
                have i4 : (2 : Int) + 1 < n := by omega
                have i5 : (3 : Int) < n := by omega
                have i6 : (2 : Int) < n := by omega
                have HOK := Lib.hid okx
                have HRX := Lib.hid hcb
                have HQ1 := Lib.hid q1
                have HQ2 := Lib.hid q2
                have HQ3 := Lib.hid q3
                clear q1 q2 q3
                clear okx hrx hcb cV hS1 hS2 hS3 hv1 hv2 hv3
                go_wp2_with (first
                  | (go_at_call 26; refine (cH _).mono ?_; rintro e w5 ⟨rfl, hb⟩; have hD := (At.new w4 c 0 0 0).below hb; have hL := Lib.hid ((hL4.out.below ((Below.refl _ _).alloc (Nat.le_refl _) _)).below hb); have hB := Lib.hid ((hB4.out.alloc hB4.out.size _).trans (hb.mono (by have := hB4.out.size; simp; omega))); clear hb; obtain ⟨d0, d1, d2, d3, d4⟩ := hD.cells; have hc5 := HCD.out _ hL.out; have g1 := HQ1.out _ hL.out)
                  | (go_at_call_of 33 (Value.string S1); refine (cV1 _).mono ?_; rintro e wx ⟨rfl, rfl⟩)
                  | (go_at_call 25; refine (cJ _).mono ?_; rintro e w6 ⟨rfl, hb⟩; have hL := Lib.hid ((hL.out.off hnb).below hb); have hD := (hD.set3 v1).below hb; have hB := stp3 hB hnl4 hb; clear hb; obtain ⟨d0, d1, d2, d3, d4⟩ := hD.cells; have g2 := HQ2.out _ hL.out; have g3 := HQ3.out _ hL.out)
                  | (go_at_call_of 33 (Value.string S2); refine (cV2 _).mono ?_; rintro e wx ⟨rfl, rfl⟩)
                  | (go_at_call_of 33 (Value.string S3); refine (cV3 _).mono ?_; rintro e wx ⟨rfl, rfl⟩))
                go_at_call 11
                refine (rline_any c (v2 % 256) (v3 % 256) v1 HOK.out _).mono ?_
                rintro e w9 ⟨rfl, hb⟩
                have hL := Lib.hid (((hL.out.off hnb).off hnb).below hb); have hD := ((hD.set1 (v2 % 256)).set2 (v3 % 256)).below hb; have hB := Lib.hid (((hB.out.setCell hnl4 _).setCell hnl4 _).trans (hb.mono ((hB.out.setCell hnl4 _).setCell hnl4 _).size))
                clear hb
                have hA := hL.out.zero
                obtain ⟨d0, d1, d2, d3, d4⟩ := hD.cells
                obtain ⟨a0, a1, a2, a3, a4⟩ := hA.cells
                obtain ⟨q, hq⟩ : ∃ q, q = M.line (c, v2 % 256, v3 % 256, v1) := ⟨_, rfl⟩
                rw [← hq] at HP ⊢
                obtain ⟨T, hT⟩ : ∃ T : ByteArray, T = ⟨q.1.toArray⟩ := ⟨_, rfl⟩
                obtain ⟨er, her⟩ : ∃ er, er = q.2 := ⟨_, rfl⟩
                rw [← hT, ← her]
                have HPX := HP.out
                clear hq
                by_cases hz : er = 0
                · have hz' : (er != 0) = false := by rw [hz]; rfl
                  by_cases ht : q.1 = l
                  · have ht' : (T.toList == s.toList) = true := by rw [hT, ByteArray.toList_mk, ByteArray.toList_eq, ← HL.out, ht]; simp
                    have hq2 : q = (l, 0) := Prod.ext ht (by rw [← her]; exact hz)
                    rw [if_pos hq2] at HPX
                    have HPP := Lib.hid HPX
                    clear HPX hq2 HP hT her ht
                    go_wp2
                    refine bodyPost_ret (results_cell (c := c) (t := v2 % 256) (f := v3 % 256) (k := v1) rfl _ _ rfl (hA.put c (v2 % 256) (v3 % 256) v1)) rfl ?_
                    rw [HPP.out]
                    exact ⟨rfl, put_below hB.out (Nat.le_refl _)⟩
                  · have ht' : (T.toList == s.toList) = false := by rw [hT, ByteArray.toList_mk, ByteArray.toList_eq, ← HL.out]; simpa using ht
                    rw [if_neg (fun e => ht (by rw [e]))] at HPX
                    have HPP := Lib.hid HPX
                    clear HPX HP hT her ht
                    go_wp2
                    refine bodyPost_ret (results_cell (c := 0) (t := 0) (f := 0) (k := 0) rfl _ _ rfl (hA.put 0 0 0 0)) rfl ?_
                    rw [HPP.out]
                    exact ⟨rfl, put_below hB.out (Nat.le_refl _)⟩
                · have hz' : (er != 0) = true := by simpa using hz
                  rw [if_neg (fun e => hz (by rw [her, e]))] at HPX
                  have HPP := Lib.hid HPX
                  clear HPX HP hT her
                  go_wp2
                  refine bodyPost_ret (results_cell (c := 0) (t := 0) (f := 0) (k := 0) rfl _ _ rfl (hA.put 0 0 0 0)) rfl ?_
                  rw [HPP.out]
                  exact ⟨rfl, put_below hB.out (Nat.le_refl _)⟩
              · skip
                have q1 : ∀ W, Lie W w.heap.size g gc ws → W.cell? ⟨g, 1, none⟩ = some (.string S1) := fun W h => by rw [hS1]; exact h.wd 1 (by rw [← HNN.out]; omega)
                have hrat : M.rat c ws = 2 := by unfold M.rat; rw [if_pos ⟨hk, by have h1 := HNN.out; omega⟩]
                have hrk : M.rk c ws = v1 := by unfold M.rk; rw [if_pos ⟨hk, by have h1 := HNN.out; omega⟩, hv1]
                have hrt : M.rt c ws = 0 := by unfold M.rt; rw [hrat, if_neg (fun h => by have h1 := HNN.out; have h2 := h.2; omega)]
                have hrf : M.rf c ws = 0 := by unfold M.rf; rw [hrat, if_neg (fun h => by have h1 := HNN.out; have h2 := h.2; omega)]
                have hrx : M.rx c ws = (c, 0, 0, v1) := by unfold M.rx; rw [hrt, hrf, hrk]
                clear hrat hrk hrt hrf
                have okx := M.rx_ok hcb.1 (by omega) ws
                rw [hrx] at okx HP
                have hj' := hj
                unfold M.jif at hj'
                have cH := fun w => rhask_any c hcb.1 (by omega) w
                rw [hk] at cH
                have cJ := fun w => rkind_any c hcb.1 (by omega) w
                have cV1 : ∀ w, Calls Tryd.prog 33 #[.string S1] w fun e w' => e = .returned (.int .u32 v1) ∧ w' = w := cV 1 _ _ hS1 hv1
                have i3 : (1 : Int) < n := by omega
                have i4 : ¬ (2 : Int) + 1 < n := by omega
                have i5 : ¬ (3 : Int) < n := by omega
                have HOK := Lib.hid okx
                have HRX := Lib.hid hcb
                have HQ1 := Lib.hid q1
                clear q1
                clear okx hrx hcb cV hS1 hS2 hS3 hv1 hv2 hv3
                go_wp2_with (first
                  | (go_at_call 26; refine (cH _).mono ?_; rintro e w5 ⟨rfl, hb⟩; have hD := (At.new w4 c 0 0 0).below hb; have hL := Lib.hid ((hL4.out.below ((Below.refl _ _).alloc (Nat.le_refl _) _)).below hb); have hB := Lib.hid ((hB4.out.alloc hB4.out.size _).trans (hb.mono (by have := hB4.out.size; simp; omega))); clear hb; obtain ⟨d0, d1, d2, d3, d4⟩ := hD.cells; have hc5 := HCD.out _ hL.out; have g1 := HQ1.out _ hL.out)
                  | (go_at_call_of 33 (Value.string S1); refine (cV1 _).mono ?_; rintro e wx ⟨rfl, rfl⟩)
                  | (go_at_call 25; refine (cJ _).mono ?_; rintro e w6 ⟨rfl, hb⟩; have hL := Lib.hid ((hL.out.off hnb).below hb); have hD := (hD.set3 v1).below hb; have hB := stp3 hB hnl4 hb; clear hb; obtain ⟨d0, d1, d2, d3, d4⟩ := hD.cells))
                go_at_call 11
                refine (rline_any c (0) (0) v1 HOK.out _).mono ?_
                rintro e w9 ⟨rfl, hb⟩
                have hL := Lib.hid (hL.out.below hb); have hD := hD.below hb; have hB := stp hB hb
                clear hb
                have hA := hL.out.zero
                obtain ⟨d0, d1, d2, d3, d4⟩ := hD.cells
                obtain ⟨a0, a1, a2, a3, a4⟩ := hA.cells
                obtain ⟨q, hq⟩ : ∃ q, q = M.line (c, 0, 0, v1) := ⟨_, rfl⟩
                rw [← hq] at HP ⊢
                obtain ⟨T, hT⟩ : ∃ T : ByteArray, T = ⟨q.1.toArray⟩ := ⟨_, rfl⟩
                obtain ⟨er, her⟩ : ∃ er, er = q.2 := ⟨_, rfl⟩
                rw [← hT, ← her]
                have HPX := HP.out
                clear hq
                by_cases hz : er = 0
                · have hz' : (er != 0) = false := by rw [hz]; rfl
                  by_cases ht : q.1 = l
                  · have ht' : (T.toList == s.toList) = true := by rw [hT, ByteArray.toList_mk, ByteArray.toList_eq, ← HL.out, ht]; simp
                    have hq2 : q = (l, 0) := Prod.ext ht (by rw [← her]; exact hz)
                    rw [if_pos hq2] at HPX
                    have HPP := Lib.hid HPX
                    clear HPX hq2 HP hT her ht
                    go_wp2
                    refine bodyPost_ret (results_cell (c := c) (t := 0) (f := 0) (k := v1) rfl _ _ rfl (hA.put c (0) (0) v1)) rfl ?_
                    rw [HPP.out]
                    exact ⟨rfl, put_below hB.out (Nat.le_refl _)⟩
                  · have ht' : (T.toList == s.toList) = false := by rw [hT, ByteArray.toList_mk, ByteArray.toList_eq, ← HL.out]; simpa using ht
                    rw [if_neg (fun e => ht (by rw [e]))] at HPX
                    have HPP := Lib.hid HPX
                    clear HPX HP hT her ht
                    go_wp2
                    refine bodyPost_ret (results_cell (c := 0) (t := 0) (f := 0) (k := 0) rfl _ _ rfl (hA.put 0 0 0 0)) rfl ?_
                    rw [HPP.out]
                    exact ⟨rfl, put_below hB.out (Nat.le_refl _)⟩
                · have hz' : (er != 0) = true := by simpa using hz
                  rw [if_neg (fun e => hz (by rw [her, e]))] at HPX
                  have HPP := Lib.hid HPX
                  clear HPX HP hT her
                  go_wp2
                  refine bodyPost_ret (results_cell (c := 0) (t := 0) (f := 0) (k := 0) rfl _ _ rfl (hA.put 0 0 0 0)) rfl ?_
                  rw [HPP.out]
                  exact ⟨rfl, put_below hB.out (Nat.le_refl _)⟩
          · skip
            cases hj : M.jif c with
            | false =>
              have hrat : M.rat c ws = 1 := by unfold M.rat; rw [if_neg (fun h => by have h1 := HNN.out; have h2 := h.2; omega)]
              have hrk : M.rk c ws = 0 := by unfold M.rk; rw [if_neg (fun h => by have h1 := HNN.out; have h2 := h.2; omega)]
              have hrt : M.rt c ws = 0 := by unfold M.rt; rw [hrat, if_neg (fun h => by have h1 := h.1; rw [hj] at h1; cases h1)]
              have hrf : M.rf c ws = 0 := by unfold M.rf; rw [hrat, if_neg (fun h => by have h1 := h.1; rw [hj] at h1; cases h1)]
              have hrx : M.rx c ws = (c, 0, 0, 0) := by unfold M.rx; rw [hrt, hrf, hrk]
              clear hrat hrk hrt hrf
              have okx := M.rx_ok hcb.1 (by omega) ws
              rw [hrx] at okx HP
              have hj' := hj
              unfold M.jif at hj'
              have cH := fun w => rhask_any c hcb.1 (by omega) w
              rw [hk] at cH
              have cJ := fun w => rkind_any c hcb.1 (by omega) w
              have i3 : ¬ (1 : Int) < n := by omega
              have HOK := Lib.hid okx
              have HRX := Lib.hid hcb
              clear okx hrx hcb cV hS1 hS2 hS3 hv1 hv2 hv3
              go_wp2_with (first
                | (go_at_call 26; refine (cH _).mono ?_; rintro e w5 ⟨rfl, hb⟩; have hD := (At.new w4 c 0 0 0).below hb; have hL := Lib.hid ((hL4.out.below ((Below.refl _ _).alloc (Nat.le_refl _) _)).below hb); have hB := Lib.hid ((hB4.out.alloc hB4.out.size _).trans (hb.mono (by have := hB4.out.size; simp; omega))); clear hb; obtain ⟨d0, d1, d2, d3, d4⟩ := hD.cells; have hc5 := HCD.out _ hL.out)
                | (go_at_call 25; refine (cJ _).mono ?_; rintro e w6 ⟨rfl, hb⟩; have hL := Lib.hid (hL.out.below hb); have hD := hD.below hb; have hB := stp hB hb; clear hb; obtain ⟨d0, d1, d2, d3, d4⟩ := hD.cells))
              go_at_call 11
              refine (rline_any c (0) (0) 0 HOK.out _).mono ?_
              rintro e w9 ⟨rfl, hb⟩
              have hL := Lib.hid (hL.out.below hb); have hD := hD.below hb; have hB := stp hB hb
              clear hb
              have hA := hL.out.zero
              obtain ⟨d0, d1, d2, d3, d4⟩ := hD.cells
              obtain ⟨a0, a1, a2, a3, a4⟩ := hA.cells
              obtain ⟨q, hq⟩ : ∃ q, q = M.line (c, 0, 0, 0) := ⟨_, rfl⟩
              rw [← hq] at HP ⊢
              obtain ⟨T, hT⟩ : ∃ T : ByteArray, T = ⟨q.1.toArray⟩ := ⟨_, rfl⟩
              obtain ⟨er, her⟩ : ∃ er, er = q.2 := ⟨_, rfl⟩
              rw [← hT, ← her]
              have HPX := HP.out
              clear hq
              by_cases hz : er = 0
              · have hz' : (er != 0) = false := by rw [hz]; rfl
                by_cases ht : q.1 = l
                · have ht' : (T.toList == s.toList) = true := by rw [hT, ByteArray.toList_mk, ByteArray.toList_eq, ← HL.out, ht]; simp
                  have hq2 : q = (l, 0) := Prod.ext ht (by rw [← her]; exact hz)
                  rw [if_pos hq2] at HPX
                  have HPP := Lib.hid HPX
                  clear HPX hq2 HP hT her ht
                  go_wp2
                  refine bodyPost_ret (results_cell (c := c) (t := 0) (f := 0) (k := 0) rfl _ _ rfl (hA.put c (0) (0) 0)) rfl ?_
                  rw [HPP.out]
                  exact ⟨rfl, put_below hB.out (Nat.le_refl _)⟩
                · have ht' : (T.toList == s.toList) = false := by rw [hT, ByteArray.toList_mk, ByteArray.toList_eq, ← HL.out]; simpa using ht
                  rw [if_neg (fun e => ht (by rw [e]))] at HPX
                  have HPP := Lib.hid HPX
                  clear HPX HP hT her ht
                  go_wp2
                  refine bodyPost_ret (results_cell (c := 0) (t := 0) (f := 0) (k := 0) rfl _ _ rfl (hA.put 0 0 0 0)) rfl ?_
                  rw [HPP.out]
                  exact ⟨rfl, put_below hB.out (Nat.le_refl _)⟩
              · have hz' : (er != 0) = true := by simpa using hz
                rw [if_neg (fun e => hz (by rw [her, e]))] at HPX
                have HPP := Lib.hid HPX
                clear HPX HP hT her
                go_wp2
                refine bodyPost_ret (results_cell (c := 0) (t := 0) (f := 0) (k := 0) rfl _ _ rfl (hA.put 0 0 0 0)) rfl ?_
                rw [HPP.out]
                exact ⟨rfl, put_below hB.out (Nat.le_refl _)⟩
            | true =>
              have hrat : M.rat c ws = 1 := by unfold M.rat; rw [if_neg (fun h => by have h1 := HNN.out; have h2 := h.2; omega)]
              have hrk : M.rk c ws = 0 := by unfold M.rk; rw [if_neg (fun h => by have h1 := HNN.out; have h2 := h.2; omega)]
              have hrt : M.rt c ws = 0 := by unfold M.rt; rw [hrat, if_neg (fun h => by have h1 := HNN.out; have h2 := h.2; omega)]
              have hrf : M.rf c ws = 0 := by unfold M.rf; rw [hrat, if_neg (fun h => by have h1 := HNN.out; have h2 := h.2; omega)]
              have hrx : M.rx c ws = (c, 0, 0, 0) := by unfold M.rx; rw [hrt, hrf, hrk]
              clear hrat hrk hrt hrf
              have okx := M.rx_ok hcb.1 (by omega) ws
              rw [hrx] at okx HP
              have hj' := hj
              unfold M.jif at hj'
              have cH := fun w => rhask_any c hcb.1 (by omega) w
              rw [hk] at cH
              have cJ := fun w => rkind_any c hcb.1 (by omega) w
              have i3 : ¬ (1 : Int) < n := by omega
              have i4 : ¬ (1 : Int) + 1 < n := by omega
              have i5 : ¬ (2 : Int) < n := by omega
              have HOK := Lib.hid okx
              have HRX := Lib.hid hcb
              clear okx hrx hcb cV hS1 hS2 hS3 hv1 hv2 hv3
              go_wp2_with (first
                | (go_at_call 26; refine (cH _).mono ?_; rintro e w5 ⟨rfl, hb⟩; have hD := (At.new w4 c 0 0 0).below hb; have hL := Lib.hid ((hL4.out.below ((Below.refl _ _).alloc (Nat.le_refl _) _)).below hb); have hB := Lib.hid ((hB4.out.alloc hB4.out.size _).trans (hb.mono (by have := hB4.out.size; simp; omega))); clear hb; obtain ⟨d0, d1, d2, d3, d4⟩ := hD.cells; have hc5 := HCD.out _ hL.out)
                | (go_at_call 25; refine (cJ _).mono ?_; rintro e w6 ⟨rfl, hb⟩; have hL := Lib.hid (hL.out.below hb); have hD := hD.below hb; have hB := stp hB hb; clear hb; obtain ⟨d0, d1, d2, d3, d4⟩ := hD.cells))
              go_at_call 11
              refine (rline_any c (0) (0) 0 HOK.out _).mono ?_
              rintro e w9 ⟨rfl, hb⟩
              have hL := Lib.hid (hL.out.below hb); have hD := hD.below hb; have hB := stp hB hb
              clear hb
              have hA := hL.out.zero
              obtain ⟨d0, d1, d2, d3, d4⟩ := hD.cells
              obtain ⟨a0, a1, a2, a3, a4⟩ := hA.cells
              obtain ⟨q, hq⟩ : ∃ q, q = M.line (c, 0, 0, 0) := ⟨_, rfl⟩
              rw [← hq] at HP ⊢
              obtain ⟨T, hT⟩ : ∃ T : ByteArray, T = ⟨q.1.toArray⟩ := ⟨_, rfl⟩
              obtain ⟨er, her⟩ : ∃ er, er = q.2 := ⟨_, rfl⟩
              rw [← hT, ← her]
              have HPX := HP.out
              clear hq
              by_cases hz : er = 0
              · have hz' : (er != 0) = false := by rw [hz]; rfl
                by_cases ht : q.1 = l
                · have ht' : (T.toList == s.toList) = true := by rw [hT, ByteArray.toList_mk, ByteArray.toList_eq, ← HL.out, ht]; simp
                  have hq2 : q = (l, 0) := Prod.ext ht (by rw [← her]; exact hz)
                  rw [if_pos hq2] at HPX
                  have HPP := Lib.hid HPX
                  clear HPX hq2 HP hT her ht
                  go_wp2
                  refine bodyPost_ret (results_cell (c := c) (t := 0) (f := 0) (k := 0) rfl _ _ rfl (hA.put c (0) (0) 0)) rfl ?_
                  rw [HPP.out]
                  exact ⟨rfl, put_below hB.out (Nat.le_refl _)⟩
                · have ht' : (T.toList == s.toList) = false := by rw [hT, ByteArray.toList_mk, ByteArray.toList_eq, ← HL.out]; simpa using ht
                  rw [if_neg (fun e => ht (by rw [e]))] at HPX
                  have HPP := Lib.hid HPX
                  clear HPX HP hT her ht
                  go_wp2
                  refine bodyPost_ret (results_cell (c := 0) (t := 0) (f := 0) (k := 0) rfl _ _ rfl (hA.put 0 0 0 0)) rfl ?_
                  rw [HPP.out]
                  exact ⟨rfl, put_below hB.out (Nat.le_refl _)⟩
              · have hz' : (er != 0) = true := by simpa using hz
                rw [if_neg (fun e => hz (by rw [her, e]))] at HPX
                have HPP := Lib.hid HPX
                clear HPX HP hT her
                go_wp2
                refine bodyPost_ret (results_cell (c := 0) (t := 0) (f := 0) (k := 0) rfl _ _ rfl (hA.put 0 0 0 0)) rfl ?_
                rw [HPP.out]
                exact ⟨rfl, put_below hB.out (Nat.le_refl _)⟩
      · have hq : (N.toList == N0.toList) = false := by rw [hN, hN0, ByteArray.toList_mk, ByteArray.toList_mk]; simpa using he
        have HE := Lib.hid he
        clear he hN hN0
        refine wp_region_quiet_below (by kernel_rfl) (by kernel_rfl) ?_
        repeat (quiet_step (exact HNm.out _ _))
        refine wpQuiet_nil ?_
        intro w4 hw4
        have hb : Below wr.heap.size wr w4 := by obtain ⟨⟨d, os⟩, rfl⟩ := hw4; exact below_regrown _ _ _
        have HR4 := Lib.hid (HR.out.1.trans (hb.mono HR.out.1.size))
        clear hb hw4 kc kv HNm
        go_wp2
        go_roundw
        case rel => exact ⟨j + 1, by omega, by go_num, HR4.out, fun q hq => by
          by_cases e : q = j
          · rw [e]; exact HE.out
          · exact HR.out.2 q (by omega)⟩
        case measure => simp [intOf]; omega
    · obtain rfl : j = 41 := by omega
      have hA := hLr.out.zero
      obtain ⟨a0, a1, a2, a3, a4⟩ := hA.cells
      have e1 : X = none := by rw [HX.out]; exact M.parse_no (fun q hq => by rw [← HZ.out]; exact HR.out.2 q hq)
      have HE := Lib.hid e1
      clear e1
      go_wp2
      refine bodyPost_ret (results_cell (c := 0) (t := 0) (f := 0) (k := 0) rfl _ _ rfl (hA.put 0 0 0 0)) rfl ?_
      rw [HE.out]
      exact ⟨rfl, put_below hBr.out (Nat.le_refl _)⟩
end Go.Proofs.YtapjjpjiggjlfaaDoor.B
