/-
  The reference's whole and Next, as walks over the Go text.
-/
import Derived.Test.YtfmlefadifpocaaHO
namespace Go.Proofs.Ytfmlefadifpocaa.B
open Go.ChangeShapes Go.WideShapes Go.ChangeAt Go.RowKit
open Go.Sort hiding Below
set_option linter.unusedVariables false

set_option maxHeartbeats 1600000 in
set_option maxRecDepth 100000 in
theorem whole_any (a : Option Addr) (n cap : Nat) (l : List M.I) (hln : l.length = n) (hn : n ≤ 65536) (ok : ∀ i ∈ l, M.okI i) (w : World) (hl : Lies w a l) (r : Bool) (hr : (decide (M.lnE n = 0) && decide ((M.wa l).2 = 0)) = r) :
    Calls Try.prog 65 #[.slice a n cap] w fun e w' => e = .returned (.bool r) ∧ Below w.heap.size w w' := by
  have HH := hid (And.intro hln (And.intro ok (And.intro hl hr)))
  clear hln ok hl hr
  go_enter Try.func65, Try.ntmps65
  go_wp2
  go_loopw [3] (fun i wr => ∃ k : Nat, k ≤ n ∧ i = .int .i64 k ∧ Hid (Below w.heap.size w wr ∧ ∀ j, j < k → M.wrong l j = false)) (fun i _ => n - (intOf i).toNat)
  case atStart => exact ⟨0, Nat.zero_le _, rfl, Below.refl _ _, fun j hj => by omega⟩
  case round =>
    obtain ⟨k, hk, rfl, HR⟩ := hrel
    by_cases hlt : k < n
    · have i1 : (k : Int) < (n : Int) := by omega
      have hkl : k < l.length := by rw [HH.out.1]; exact hlt
      obtain ⟨b, o, rfl, hly⟩ := (HH.out.2.2.1).ly (by omega)
      have HL := hid hly
      have HC := hid (fun w hl => rlocal_ly b o n cap k l HH.out.1 hn hkl HH.out.2.1 w hl)
      obtain ⟨x, hx⟩ : ∃ x, M.loc n k l[k] = x := ⟨_, rfl⟩
      rw [hx] at HC
      have HX := hid hx
      have HK := hid hkl
      clear hx hly
      rcases hz : (x != 0) with _ | _
      · go_wp2_with (go_at_call 56; refine (HC.out _ (HL.out.below HR.out.1)).mono ?_; rintro e w1 ⟨rfl, hb⟩; have HB := stp (hid HR.out.1) hb; clear hb)
        go_roundw
        case rel => exact ⟨k + 1, by omega, by go_num, HB.out, fun j hj => by
          by_cases e : j = k
          · subst e
            rw [M.wrong_at HK.out]
            have h1 := HX.out
            rw [← HH.out.1] at h1
            rw [h1, hz]
          · exact HR.out.2 j (by omega)⟩
        case measure => simp [intOf]; omega
      · have HP := hid (show M.wa l = (k, x) by
          have h1 := HX.out
          rw [← HH.out.1] at h1
          have := M.wa_some HK.out (by rw [h1]; simpa using hz) HR.out.2
          rw [h1] at this
          exact this)
        go_wp2_with (go_at_call 56; refine (HC.out _ (HL.out.below HR.out.1)).mono ?_; rintro e w1 ⟨rfl, hb⟩; have HB := stp (hid HR.out.1) hb; clear hb)
        go_ret
        have h2 : x ≠ 0 := by simpa using hz
        exact ⟨by rw [← HH.out.2.2.2, HP.out]; simp [h2], HB.out⟩
    · obtain rfl : k = n := by omega
      have HP := hid (M.wa_none (l := l) fun j hj => HR.out.2 j (by rw [HH.out.1] at hj; exact hj))
      have hr : decide (M.lnE k = 0) = r := by
        have := HH.out.2.2.2
        rw [HP.out] at this
        simpa using this
      have hd : M.lnE k = 0 ↔ (1 ≤ (k : Int)) ∧ ((k : Int) ≤ 4096) := by
        constructor
        · intro h; have := M.lnE_ok h; omega
        · intro h; unfold M.lnE; rw [if_neg (by omega), if_neg (by omega)]
      have c : (decide (1 ≤ (k : Int)) = false ∧ r = false) ∨ (decide (1 ≤ (k : Int)) = true ∧ decide ((k : Int) ≤ 4096) = r) := by
        rw [← hr]
        by_cases h1 : 1 ≤ (k : Int)
        · right; exact ⟨decide_eq_true h1, by rw [decide_eq_decide, hd]; simp [h1]⟩
        · left; exact ⟨decide_eq_false h1, decide_eq_false (by rw [hd]; omega)⟩
      clear hd hr
      rcases c with ⟨c1, rfl⟩ | ⟨c1, rfl⟩
      all_goals
        go_wp2
        go_ret
        exact ⟨by simp, HR.out.1⟩

/-- the places that come behind, as a row of numbers -/
def Nx (w : World) (a : Option Addr) (js : List Nat) : Prop := js = [] ∨ ∃ g, a = some ⟨g, 0, none⟩ ∧ g < w.heap.size ∧ ∀ j (h : j < js.length), w.cell? ⟨g, j, none⟩ = some (.int .i64 (js[j] : Int))
theorem nx_new (w : World) (js : List Nat) (t : TypeId) : Nx (w.alloc (.cells (js.map (fun (x : Nat) => Value.int .i64 (x : Int))).toArray t)) (some ⟨w.heap.size, 0, none⟩) js :=
  .inr ⟨_, rfl, by simp, fun j h => by rw [cell_lit, List.getElem?_map, List.getElem?_eq_getElem h]; rfl⟩
theorem Nx.below {w w' : World} {a : Option Addr} {js : List Nat} (h : Nx w a js) (hb : Below w.heap.size w w') : Nx w' a js := by
  rcases h with h | ⟨g, e, h1, h2⟩
  · exact .inl h
  · exact .inr ⟨g, e, Nat.lt_of_lt_of_le h1 hb.size, fun j hj => (hb.cell (p := ⟨g, j, none⟩) h1).trans (h2 j hj)⟩
theorem Nx.off {w : World} {a : Option Addr} {js : List Nat} {b k : Nat} {v : Value} (h : Nx w a js) (hne : ∀ A, a = some A → A.block ≠ b) : Nx (w.setCell ⟨b, k, none⟩ v) a js := by
  rcases h with h | ⟨g, e, h1, h2⟩
  · exact .inl h
  · exact .inr ⟨g, e, by simpa using h1, fun j hj => by rw [World.cell?_setCell_far _ _ _ _ (by simpa using fun x => hne _ e x.symm)]; exact h2 j hj⟩
set_option maxHeartbeats 1600000 in
set_option maxRecDepth 100000 in
theorem next_at (b o n cap j : Nat) (c : Int) (t f k : Nat) (hn : n ≤ 65536) (hj : j < n) (ok : M.okI (c, t, f, k)) (w : World) (hl : LiesAt w b o j (c, t, f, k)) :
    Calls Try.prog 30 #[.slice (some ⟨b, o, none⟩) n cap, .int .i64 j] w fun e w' => ∃ a, e = .returned (.slice a (M.nxt j (c, t, f, k)).length (M.nxt j (c, t, f, k)).length) ∧ Nx w' a (M.nxt j (c, t, f, k)) ∧ (∀ A, a = some A → w.heap.size ≤ A.block) ∧ Below w.heap.size w w' := by
  obtain ⟨p0, p1, p2, p3⟩ := hl
  simp only at p0 p1 p2 p3
  have i1 : (j : Int) < (n : Int) := by omega
  have b0 : 0 ≤ c ∧ c < 65536 := ok.1
  have b1 : 0 ≤ (t : Int) ∧ (t : Int) < 256 := ok.2.1
  have b2 : 0 ≤ (f : Int) ∧ (f : Int) < 256 := ok.2.2.1
  have b3 : 0 ≤ (k : Int) ∧ (k : Int) < 4294967296 := ok.2.2.2
  have hb0 := hid b0
  clear ok b0
  have HA := hid (al w (.cells #[.int .u16 c, .int .u8 t, .int .u8 f, .int .u32 k] 38))
  have hA := At.new w c t f k
  go_enter Try.func30, Try.ntmps30
  go_wp2_with fail
  refine (rkind_any _ hb0.out.1 hb0.out.2 _).mono ?_
  rintro e w1 ⟨rfl, hb⟩
  replace hA := hA.below hb
  replace HA := stp HA hb
  obtain ⟨a0, a1, a2, a3, _⟩ := hA.cells
  clear hb hA
  go_wp2
  all_goals go_ret
  · have e : M.kind c = 11 := eq_of_beq (by assumption)
    rw [M.nxt11 e]
    exact ⟨_, rfl, nx_new w1 [j + 1 + k] 3, (fun A h => by cases h; exact HA.out.size), HA.out.alloc HA.out.size _⟩
  · have e : M.kind c = 12 := eq_of_beq (by assumption)
    rw [M.nxt12 e]
    exact ⟨_, rfl, nx_new w1 [j + 1 + t, j + 1 + f] 3, (fun A h => by cases h; exact HA.out.size), HA.out.alloc HA.out.size _⟩
  · have e : M.kind c = 13 := eq_of_beq (by assumption)
    rw [M.nxt13 (Or.inl e)]
    exact ⟨none, rfl, .inl rfl, (fun A h => by cases h), HA.out⟩
  · have e : M.kind c = 14 := eq_of_beq (by assumption)
    rw [M.nxt13 (Or.inr e)]
    exact ⟨none, rfl, .inl rfl, (fun A h => by cases h), HA.out⟩
  · rename_i h0 h1 h2 h3
    rw [beq_eq_false_iff_ne] at h0 h1 h2 h3
    rw [M.nxtE ⟨h0, h1, h2, h3⟩]
    exact ⟨_, rfl, nx_new w1 [j + 1] 3, (fun A h => by cases h; exact HA.out.size), HA.out.alloc HA.out.size _⟩
theorem next_ly (b o n cap j : Nat) (l : List M.I) (hln : l.length = n) (hn : n ≤ 65536) (hj : j < l.length) (ok : ∀ i ∈ l, M.okI i) (w : World) (hl : Ly w b o l) (js : List Nat) (m : Nat) (hjs : M.nxt j l[j] = js) (hm : js.length = m) :
    Calls Try.prog 30 #[.slice (some ⟨b, o, none⟩) n cap, .int .i64 j] w fun e w' => ∃ a, e = .returned (.slice a m m) ∧ Nx w' a js ∧ (∀ A, a = some A → w.heap.size ≤ A.block) ∧ Below w.heap.size w w' := by
  have h1 := ok _ (List.getElem_mem hj)
  have h2 := hl.2 j hj
  subst hjs hm
  generalize l[j] = x at *
  obtain ⟨c, t, f, k⟩ := x
  obtain ⟨b0, b1, b2, b3⟩ := h1
  simp only at b0 b1 b2 b3
  obtain ⟨d, rfl⟩ : ∃ d : Nat, k = d := ⟨k.toNat, by omega⟩
  obtain ⟨t', rfl⟩ : ∃ d : Nat, t = d := ⟨t.toNat, by omega⟩
  obtain ⟨f', rfl⟩ : ∃ d : Nat, f = d := ⟨f.toNat, by omega⟩
  exact next_at b o n cap j c t' f' d hn (by omega) ⟨b0, b1, b2, b3⟩ w h2
end Go.Proofs.Ytfmlefadifpocaa.B
namespace Go.Proofs.Ytfmlefadifpocaa.M
theorem outAt_skip {l : List I} {v : Int} {k : Nat} (hk : k < l.length) (h : ((outAt l v k).getD k false && !wrW v l[k]) = false) : outAt l v (k + 1) = outAt l v k := by
  rw [outAt]; unfold stepW
  rw [List.getElem?_eq_getElem hk]
  simp only
  rw [if_neg (by rw [h]; simp)]
theorem outAt_go {l : List I} {v : Int} {k : Nat} (hk : k < l.length) (h : ((outAt l v k).getD k false && !wrW v l[k]) = true) : outAt l v (k + 1) = setAll (outAt l v k) (nxt k l[k]) := by
  rw [outAt]; unfold stepW
  rw [List.getElem?_eq_getElem hk]
  simp only
  rw [if_pos h]
theorem nxt_len (i : Nat) (x : I) : (nxt i x).length ≤ 2 := by
  unfold nxt
  split
  · simp
  · split
    · simp
    · split <;> simp
theorem setAll_snoc (o : List Bool) (js : List Nat) (j : Nat) : setAll o (js ++ [j]) = (setAll o js).set j true := by
  unfold setAll; rw [List.foldl_append]; rfl
end Go.Proofs.Ytfmlefadifpocaa.M
namespace Go.Proofs.Ytfmlefadifpocaa.B
open Go.ChangeShapes Go.WideShapes Go.ChangeAt Go.RowKit
open Go.Sort hiding Below
set_option linter.unusedVariables false

theorem infob : (Try.prog.info? 4).map (fun i => (i.zero, i.size, i.bytes)) = some (some (.bool false), 1, 1) := by kernel_rfl
set_option maxHeartbeats 3200000 in
set_option maxRecDepth 100000 in
theorem without_any (b o n cap : Nat) (l : List M.I) (hln : l.length = n) (h0 : 0 < n) (hn : n ≤ 65536) (ok : ∀ i ∈ l, M.okI i) (w : World) (hl : Ly w b o l) (v : Int) :
    Calls Try.prog 66 #[.slice (some ⟨b, o, none⟩) n cap, .int .i64 v] w fun e w' => ∃ g, e = .returned (.slice (some ⟨g, 0, none⟩) n n) ∧ Row w' g n (fun j => .bool (M.bare l v j)) ∧ Below w.heap.size w w' ∧ w.heap.size ≤ g := by
  obtain ⟨i0, hi, hz0, hz1, hz2⟩ := info_parts infob
  have HH := hid (And.intro hln (And.intro ok hl))
  clear hln ok hl
  have c0 : ((n : Int) == 0) = false := beq_eq_false_iff_ne.2 (by omega)
  have i1 : (0 : Int) < (n : Int) := by omega
  go_enter Try.func66, Try.ntmps66
  go_wp2_with (at_make; refine wpList_make_full _ rfl _ _ 50 rfl w.heap.size 4 i0 (.bool false) 1 Try.underlying50 hi hz0 hz1 .i64 .i64 n n n rfl rfl rfl rfl ?c1 ?c2 (Nat.le_refl _) ?_)
  case c1 => rw [hz2]; omega
  case c2 => unfold maxLen; omega
  intro wm hown hgrow
  have hbm : Below w.heap.size w wm := (Below.refl _ _).grown hgrow (Nat.le_refl _) (by intro k hk; cases hk)
  have hR0 : Row wm w.heap.size n (fun _ => .bool false) := Row.of_own hown (fun j hj => made_get (.bool false) n j hj) (hown.lt _ rfl).2
  have cZ := hR0.cell 0 h0
  have fZ := hR0.froz 0 h0
  have HM := hid (show Row (wm.setCell ⟨w.heap.size, 0, none⟩ (.bool true)) w.heap.size n (fun j => .bool ((M.outAt l v 0).getD j false)) ∧ Below w.heap.size w (wm.setCell ⟨w.heap.size, 0, none⟩ (.bool true)) from
    ⟨(hR0.set 0 h0 _).congr (fun j hj => by
      have e : (M.outAt l v 0).getD j false = decide (j = 0) := by
        rw [M.outAt, M.set_getD]
        rw [List.getD_eq_getElem?_getD, List.getElem?_replicate, if_pos (by rw [HH.out.1]; exact hj), List.length_replicate]
        simp only [HH.out.1]
        by_cases e3 : j = 0 <;> simp [e3, eq_comm, h0]
      rw [e]
      by_cases e2 : j = 0
      · simp [e2]
      · simp [e2]), hbm.setCell (Nat.le_refl _) _⟩)
  clear hown hgrow hbm hR0
  go_wp2
  generalize wm.setCell ⟨w.heap.size, 0, none⟩ (.bool true) = wz at *
  clear cZ fZ
  go_loopw [6] (fun i wr => ∃ k : Nat, k ≤ n ∧ i = .int .i64 k ∧ Hid (Row wr w.heap.size n (fun j => .bool ((M.outAt l v k).getD j false)) ∧ Below w.heap.size w wr)) (fun i _ => n - (intOf i).toNat)
  case atStart => exact ⟨0, Nat.zero_le _, rfl, HM.out⟩
  case round =>
    clear HM
    obtain ⟨k, hk, rfl, HR⟩ := hrel
    by_cases hlt : k < n
    · have i2 : (k : Int) < (n : Int) := by omega
      have hkl : k < l.length := by rw [HH.out.1]; exact hlt
      obtain ⟨x, hx⟩ : ∃ x, l[k] = x := ⟨_, rfl⟩
      have hok : M.okI x := hx ▸ HH.out.2.1 _ (List.getElem_mem hkl)
      have HL := hid (HH.out.2.2.below HR.out.2)
      obtain ⟨js, hjs⟩ : ∃ js, M.nxt k x = js := ⟨_, rfl⟩
      have HN := hid (fun w hl => next_ly b o n cap k l HH.out.1 hn hkl HH.out.2.1 w hl js js.length (by rw [hx]; exact hjs) rfl)
      obtain ⟨ob, hob⟩ : ∃ ob, (M.outAt l v k).getD k false = ob := ⟨_, rfl⟩
      have HS := hid (fun h : (ob && !M.wrW v x) = false => M.outAt_skip (v := v) hkl (by rw [hob, hx]; exact h))
      have HG := hid (fun h : (ob && !M.wrW v x) = true => (by have := M.outAt_go (v := v) hkl (by rw [hob, hx]; exact h); rw [hx, hjs] at this; exact this : M.outAt l v (k + 1) = M.setAll (M.outAt l v k) js))
      have hq := HL.out.2 k hkl
      have HQ := hid (fun w' (hb : Below wr.heap.size wr w') => (HL.out.below hb).2 k hkl)
      rw [hx] at HQ
      have hlen : js.length ≤ 2 := by rw [← hjs]; exact M.nxt_len _ _
      clear hjs
      obtain ⟨c, t, f, kk⟩ := x
      rw [hx] at hq
      obtain ⟨q0, q1, q2, q3⟩ := hq
      simp only at q0 q1 q2 q3
      obtain ⟨b0, b1, b2, b3⟩ := hok
      simp only at b0 b1 b2 b3
      have HO := hid (fun w' (hb : Below wr.heap.size wr w') => (by have := (HR.out.1.below hb).cell k hlt; rw [hob] at this; exact this : w'.cell? ⟨w.heap.size, k, none⟩ = some (.bool ob)))
      have hwr : M.wrW v (c, t, f, kk) = ((M.kind c == 8 || M.kind c == 9) && kk == v) := rfl
      rw [hwr] at HS HG
      have hbk := hid b0
      clear b0 hx hob hwr
      have cs : (ob = false ∨ ob = true ∧ ((M.kind c == 8) = true ∧ (kk == v) = true ∨ (M.kind c == 8) = false ∧ (M.kind c == 9) = true ∧ (kk == v) = true)) ∨ (ob = true ∧ ((M.kind c == 8) = true ∧ (kk == v) = false ∨ (M.kind c == 8) = false ∧ ((M.kind c == 9) = true ∧ (kk == v) = false ∨ (M.kind c == 9) = false))) := by
        cases ob <;> cases (M.kind c == 8) <;> cases (M.kind c == 9) <;> cases (kk == v) <;> simp
      rcases cs with cs | cs
      · rcases cs with rfl | ⟨rfl, ⟨d1, d2⟩ | ⟨d1, d2, d3⟩⟩
        all_goals
          have hS := HS.out (by simp [*])
          have HS2 := hid hS
          clear hS HS HG HN
          go_wp2_with fail
          refine (rkind_any _ hbk.out.1 hbk.out.2 _).mono ?_
          rintro e w2 ⟨rfl, hb⟩
          have hc := HO.out _ hb
          obtain ⟨r0, r1, r2, r3⟩ := HQ.out _ hb
          simp only at r0 r1 r2 r3
          have HB := hid (show Row w2 w.heap.size n (fun j => .bool ((M.outAt l v k).getD j false)) ∧ Below w.heap.size w w2 from ⟨HR.out.1.below hb, (stp (hid HR.out.2) hb).out⟩)
          clear hb
          go_wp2
          go_roundw
          case rel => exact ⟨k + 1, by omega, by go_num, by rw [HS2.out]; exact HB.out⟩
          case measure => simp [intOf]; omega
      · rcases cs with ⟨rfl, ⟨d1, d2⟩ | ⟨d1, ⟨d2, d3⟩ | d2⟩⟩
        all_goals
          have hG := HG.out (by simp [*])
          have HG2 := hid hG
          clear hG HS HG
          go_wp2_with fail
          refine (rkind_any _ hbk.out.1 hbk.out.2 _).mono ?_
          rintro e w2 ⟨rfl, hb⟩
          have hc := HO.out _ hb
          obtain ⟨r0, r1, r2, r3⟩ := HQ.out _ hb
          simp only at r0 r1 r2 r3
          have HB := hid (show Row w2 w.heap.size n (fun j => .bool ((M.outAt l v k).getD j false)) ∧ Below w.heap.size w w2 from ⟨HR.out.1.below hb, (stp (hid HR.out.2) hb).out⟩)
          have HL2 := hid (HL.out.below hb)
          clear hb HL HR
          go_wp2_with (go_at_call 30; refine (HN.out _ HL2.out).mono ?_; rintro e w3 ⟨a, rfl, hnx, hfr, hb⟩)
          have hgn : ∀ A, a = some A → A.block ≠ w.heap.size := fun A hA => by have := hfr A hA; have := HB.out.1.lt; omega
          have HI := hid (show Row w3 w.heap.size n (fun j => .bool ((M.outAt l v k).getD j false)) ∧ Below w.heap.size w w3 ∧ Nx w3 a js from ⟨HB.out.1.below hb, (stp (hid HB.out.2) hb).out, hnx⟩)
          have HGN := hid hgn
          clear hb HB HL2 hnx hfr hc r0 r1 r2 r3 q0 q1 q2 q3 hgn HN
          obtain ⟨m, hm⟩ : ∃ m, js.length = m := ⟨_, rfl⟩
          rw [hm]
          have HMM := hid hm
          have hm2 : m ≤ 2 := by omega
          clear hm hlen
          go_loopw [9] (fun i wr => ∃ q : Nat, q ≤ m ∧ i = .int .i64 q ∧ Hid (Row wr w.heap.size n (fun j => .bool ((M.setAll (M.outAt l v k) (js.take q)).getD j false)) ∧ Below w.heap.size w wr ∧ Nx wr a js)) (fun i _ => m - (intOf i).toNat)
          case atStart => exact ⟨0, Nat.zero_le _, rfl, HI.out⟩
          case round =>
            clear HI
            obtain ⟨q, hq, rfl, HJ⟩ := hrel
            by_cases hq2 : q < m
            · have i3 : (q : Int) < (m : Int) := by omega
              have hqj : q < js.length := by rw [HMM.out]; exact hq2
              rcases HJ.out.2.2 with h | ⟨g', rfl, hg', hcell⟩
              · rw [h] at hqj; simp at hqj
              obtain ⟨y, hy⟩ : ∃ y, js[q] = y := ⟨_, rfl⟩
              have cy := hcell q hqj
              rw [hy] at cy
              have HSet := hid (show M.setAll (M.outAt l v k) (js.take (q + 1)) = (M.setAll (M.outAt l v k) (js.take q)).set y true by
                rw [List.take_succ_eq_append_getElem hqj, hy, M.setAll_snoc])
              have HLen := hid (show (M.setAll (M.outAt l v k) (js.take q)).length = n by rw [M.setAll_len, M.outAt_len, HH.out.1])
              clear hcell hy
              by_cases hyn : y < n
              · have i4 : (y : Int) < (n : Int) := by omega
                have cR := HJ.out.1.cell y hyn
                have fR := HJ.out.1.froz y hyn
                go_wp2
                go_roundw
                case rel => exact ⟨q + 1, by omega, by go_num, (HJ.out.1.set y hyn _).congr (fun j hj => by
                  rw [HSet.out, M.set_getD, HLen.out]
                  by_cases e : j = y
                  · subst e; simp [hj]
                  · have e2 : ¬ y = j := fun h => e h.symm
                    simp [e, e2]), HJ.out.2.1.setCell (Nat.le_refl _) _, HJ.out.2.2.off HGN.out⟩
                case measure => simp [intOf]; omega
              · have i4 : ¬ (y : Int) < (n : Int) := by omega
                go_wp2
                go_roundw
                case rel => exact ⟨q + 1, by omega, by go_num, HJ.out.1.congr (fun j hj => by
                  rw [HSet.out, M.set_getD, HLen.out]
                  have e2 : ¬ y = j := fun h => by omega
                  simp [e2]), HJ.out.2.1, HJ.out.2.2⟩
                case measure => simp [intOf]; omega
            · obtain rfl : q = m := by omega
              have HT := hid (show js.take q = js by rw [← HMM.out]; exact List.take_length)
              go_wp2
              go_roundw
              case rel => exact ⟨k + 1, by omega, by go_num, by rw [HG2.out]; have := HJ.out; rw [HT.out] at this; exact ⟨this.1, this.2.1⟩⟩
              case measure => simp [intOf]; omega
    · obtain rfl : k = n := by omega
      go_wp2
      go_ret
      exact ⟨_, rfl, HR.out.1.congr (fun j hj => by unfold M.bare; rw [HH.out.1]), HR.out.2, Nat.le_refl _⟩
end Go.Proofs.Ytfmlefadifpocaa.B
