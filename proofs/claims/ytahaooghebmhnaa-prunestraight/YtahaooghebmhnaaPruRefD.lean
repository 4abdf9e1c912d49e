/-
  What the reference leaves behind a round, as a walk over the Go text.
-/
import Derived.Test.YtahaooghebmhnaaPruRefC
namespace Go.Proofs.Ytahaooghebmhnaa.B
open Go.ChangeShapes Go.WideShapes Go.ChangeAt Go.RowKit
open Go.Sort hiding Below
set_option linter.unusedVariables false

theorem At.far {W W' : World} {b B : Nat} {c t f k : Int} (h : At W b c t f k) (hb : Below B W W') (hB : b < B) : At W' b c t f k := by
  unfold At at *; rw [hb.block b hB]; exact h

set_option maxHeartbeats 6400000 in
set_option maxRecDepth 1000000 in
theorem rround_any (b o n cap : Nat) (l : List M.I) (hln : l.length = n) (hn : n ≤ 4096) (ok : ∀ i ∈ l, M.okI i) (hr : M.right l) (w : World) (hl : Ly w b o l) :
    Calls Try.prog 31 #[.slice (some ⟨b, o, none⟩) n cap] w fun e w' => ∃ a c, e = .returned (.slice a (M.roundL l).length c) ∧ Lies w' a (M.roundL l) ∧ Below w.heap.size w w' := by
  obtain ⟨i0, hi, hz0, hz1, hz2⟩ := info_parts infoi
  have h0 : 0 < n := by rw [← hln]; exact ((M.right_iff l).1 hr).1.1
  have HC := hid (rstr_any b o n cap l hln hn ok hr w hl)
  have HN := hid (fun W (h : Ly W b o l) => rneed_any b o n cap l hln hn ok hr W h)
  have HH := hid (And.intro hln (And.intro ok (And.intro hl hr)))
  clear hln ok hl hr
  go_enter Try.func31, Try.ntmps31
  go_wp2_with fail
  refine HC.out.mono ?_
  rintro e w1 ⟨gs, cs, rfl, hR, hb, hg⟩
  have HR := hid (And.intro hR (And.intro hb hg))
  clear hR hb hg HC
  go_wp2_with fail
  refine (HN.out _ (HH.out.2.2.1.below HR.out.2.1)).mono ?_
  rintro e w2 ⟨gn, rfl, hO, hb, hgo⟩
  have hsn : gs < gn := Nat.lt_of_lt_of_le HR.out.1.lt hgo
  have hws : w.heap.size ≤ gs := HR.out.2.2
  have HR2 := hid (show Row w2 gn n (fun j => .bool (M.nd (M.strL l) j)) ∧ Ro w2 gs n (M.strI l) ∧ Below w.heap.size w w2 from ⟨hO, HR.out.1.below hb, (stp (hid HR.out.2.1) hb).out⟩)
  clear hO hb hgo HN HR
  go_wp2_with (at_make; refine wpList_make_full _ rfl _ _ 40 rfl w2.heap.size 3 i0 (.int .i64 0) 1 Try.underlying40 hi hz0 hz1 .i64 .i64 (n + 1) (n + 1) (n + 1) rfl rfl rfl rfl ?c1 ?c2 (Nat.le_refl _) ?_)
  case c1 => rw [hz2]; omega
  case c2 => unfold maxLen; omega
  intro wm hown hgrow
  have hbm : Below w2.heap.size w2 wm := (Below.refl _ _).grown hgrow (Nat.le_refl _) (by intro k hk; cases hk)
  have hR0 : Row wm w2.heap.size (n + 1) (fun j => .int .i64 ((if j ≤ 0 then M.cnt (M.strL l) j else 0 : Nat) : Int)) := (Row.of_own hown (fun j hj => made_get (.int .i64 0) (n + 1) j hj) (hown.lt _ rfl).2).congr fun j _ => by
    by_cases e : j ≤ 0
    · obtain rfl : j = 0 := by omega
      rfl
    · rw [if_neg e]; rfl
  obtain ⟨ga, hga⟩ : ∃ ga, w2.heap.size = ga := ⟨_, rfl⟩
  have hna : gn < ga := by rw [← hga]; exact HR2.out.1.lt
  have HM := hid (show Row wm gn n (fun j => .bool (M.nd (M.strL l) j)) ∧ Row wm ga (n + 1) (fun j => .int .i64 ((if j ≤ 0 then M.cnt (M.strL l) j else 0 : Nat) : Int)) ∧ Ro wm gs n (M.strI l) ∧ Below w.heap.size w wm from
    ⟨HR2.out.1.below hbm, by rw [← hga]; exact hR0, HR2.out.2.1.below hbm, (stp (hid HR2.out.2.2) hbm).out⟩)
  rw [hga]
  clear hown hgrow hbm hR0 HR2 hga
  go_wp2
  go_loopw [6] (fun i wr => ∃ k : Nat, k ≤ n ∧ i = .int .i64 k ∧ Hid (Row wr gn n (fun j => .bool (M.nd (M.strL l) j)) ∧ Row wr ga (n + 1) (fun j => .int .i64 ((if j ≤ k then M.cnt (M.strL l) j else 0 : Nat) : Int)) ∧ Ro wr gs n (M.strI l) ∧ Below w.heap.size w wr)) (fun i _ => n - (intOf i).toNat)
  case atStart => exact ⟨0, Nat.zero_le _, rfl, HM.out⟩
  case round =>
    clear HM
    obtain ⟨k, hk, rfl, HR⟩ := hrel
    by_cases hlt : k < n
    · have i2 : (k : Int) < (n : Int) := by omega
      have i3 : (k : Int) + 1 < (n : Int) + 1 := by omega
      have i4 : 0 ≤ (k : Int) + 1 := by omega
      have i5 : (k : Int) < (n : Int) + 1 := by omega
      have cn := HR.out.1.cell k hlt
      have ca := HR.out.2.1.cell k (by omega)
      simp only [Nat.le_refl, if_true] at ca
      have cb := HR.out.2.1.cell (k + 1) (by omega)
      have fb := HR.out.2.1.froz (k + 1) (by omega)
      obtain ⟨v, hv⟩ : ∃ v, M.cnt (M.strL l) k = v := ⟨_, rfl⟩
      rw [hv] at ca
      have hvb : v ≤ 4096 := by rw [← hv]; have := M.cnP_near (M.nd (M.strL l)) (Nat.zero_le k); have e : M.cnP (M.nd (M.strL l)) 0 = 0 := rfl; unfold M.cnt; omega
      obtain ⟨nb, hnb⟩ : ∃ nb, M.nd (M.strL l) k = nb := ⟨_, rfl⟩
      simp only [hnb] at cn
      have HS := hid (show M.cnt (M.strL l) (k + 1) = v + (if nb = true then 1 else 0) by
        have := M.cnP_succ (M.nd (M.strL l)) k
        rw [hnb] at this
        unfold M.cnt at hv ⊢
        rw [this, hv])
      have HU := hid (fun (V : Nat) (h : M.cnt (M.strL l) (k + 1) = V) j => (show (if j ≤ k + 1 then M.cnt (M.strL l) j else 0) = if j = k + 1 then V else (if j ≤ k then M.cnt (M.strL l) j else 0) by
        by_cases e : j = k + 1
        · subst e; rw [if_pos (Nat.le_refl _), if_pos rfl, h]
        · rw [if_neg e]
          by_cases e2 : j ≤ k
          · rw [if_pos e2, if_pos (by omega)]
          · rw [if_neg e2, if_neg (by omega)]))
      obtain ⟨wa, hwa⟩ : ∃ wa, wr.setCell ⟨ga, k + 1, none⟩ (.int .i64 (v : Int)) = wa := ⟨_, rfl⟩
      have HA := hid (show Row wa gn n (fun j => .bool (M.nd (M.strL l) j)) ∧ Row wa ga (n + 1) (fun j => if j = k + 1 then .int .i64 (v : Int) else .int .i64 ((if j ≤ k then M.cnt (M.strL l) j else 0 : Nat) : Int)) ∧ Ro wa gs n (M.strI l) ∧ Below w.heap.size w wa from by
        rw [← hwa]
        exact ⟨HR.out.1.other _ _ _ (by omega), HR.out.2.1.set (k + 1) (by omega) _, HR.out.2.2.1.off (by omega), HR.out.2.2.2.setCell (by simp; omega) _⟩)
      have cn2 := HA.out.1.cell k hlt
      simp only [hnb] at cn2
      have cb2 := HA.out.2.1.cell (k + 1) (by omega)
      simp only [if_true] at cb2
      have fb2 := HA.out.2.1.froz (k + 1) (by omega)
      clear hv hnb HR
      cases nb with
      | true =>
        have HV := hid (HS.out.trans (show v + (if true = true then 1 else 0) = v + 1 from rfl))
        have HF := hid (show Row (wa.setCell ⟨ga, k + 1, none⟩ (.int .i64 ((v : Int) + 1))) gn n (fun j => .bool (M.nd (M.strL l) j)) ∧ Row (wa.setCell ⟨ga, k + 1, none⟩ (.int .i64 ((v : Int) + 1))) ga (n + 1) (fun j => .int .i64 ((if j ≤ k + 1 then M.cnt (M.strL l) j else 0 : Nat) : Int)) ∧ Ro (wa.setCell ⟨ga, k + 1, none⟩ (.int .i64 ((v : Int) + 1))) gs n (M.strI l) ∧ Below w.heap.size w (wa.setCell ⟨ga, k + 1, none⟩ (.int .i64 ((v : Int) + 1))) from
          ⟨HA.out.1.other _ _ _ (by omega), (HA.out.2.1.set (k + 1) (by omega) _).congr (fun j hj => by
            rw [HU.out _ HV.out j]
            by_cases e : j = k + 1
            · rw [if_pos e, if_pos e]; rfl
            · rw [if_neg e, if_neg e, if_neg e]), HA.out.2.2.1.off (by omega), HA.out.2.2.2.setCell (by simp; omega) _⟩)
        clear HA
        go_wp2
        go_roundw
        case rel => exact ⟨k + 1, by omega, by go_num, HF.out⟩
        case measure => simp [intOf]; omega
      | false =>
        have HV := hid (HS.out.trans (show v + (if false = true then 1 else 0) = v from rfl))
        have HF := hid (show Row wa gn n (fun j => .bool (M.nd (M.strL l) j)) ∧ Row wa ga (n + 1) (fun j => .int .i64 ((if j ≤ k + 1 then M.cnt (M.strL l) j else 0 : Nat) : Int)) ∧ Ro wa gs n (M.strI l) ∧ Below w.heap.size w wa from
          ⟨HA.out.1, HA.out.2.1.congr (fun j hj => by
            rw [HU.out _ HV.out j]
            by_cases e : j = k + 1
            · rw [if_pos e, if_pos e]
            · rw [if_neg e, if_neg e]), HA.out.2.2⟩)
        clear HA
        go_wp2
        go_roundw
        case rel => exact ⟨k + 1, by omega, by go_num, HF.out⟩
        case measure => simp [intOf]; omega
    · obtain rfl : k = n := by omega
      obtain ⟨B, hB⟩ : ∃ B, wr.heap.size = B := ⟨_, rfl⟩
      have hBn : gn < B := by rw [← hB]; exact HR.out.1.lt
      have hBa : ga < B := by rw [← hB]; exact HR.out.2.1.lt
      have hBs : gs < B := by rw [← hB]; exact HR.out.2.2.1.lt
      have hwB : w.heap.size ≤ B := by rw [← hB]; exact HR.out.2.2.2.size
      have HI := hid (show Own wr B none 0 0 ([] : List M.I) ∧ Row wr gn k (fun j => .bool (M.nd (M.strL l) j)) ∧ Row wr ga (k + 1) (fun j => .int .i64 ((M.cnt (M.strL l) j : Nat) : Int)) ∧ Ro wr gs k (M.strI l) ∧ Below w.heap.size w wr ∧ B ≤ wr.heap.size from
        ⟨Own.nil _ _, HR.out.1, HR.out.2.1.congr (fun j hj => by rw [if_pos (by omega)]), HR.out.2.2.1, HR.out.2.2.2, by omega⟩)
      clear HR hB
      obtain ⟨n, hnk⟩ : ∃ n, n = k := ⟨_, rfl⟩
      subst hnk
      go_wp2
      go_loopw [7, 8] (fun v i wr => ∃ (k m : Nat) (a : Option Addr) (cc : Nat), k ≤ n ∧ m = M.cnt (M.strL l) k ∧ v = .slice a m cc ∧ i = .int .i64 k ∧ Hid (Own wr B a m cc ((M.lsP (M.nd (M.strL l)) k).map (M.rndI (M.strL l))) ∧ Row wr gn n (fun j => .bool (M.nd (M.strL l) j)) ∧ Row wr ga (n + 1) (fun j => .int .i64 ((M.cnt (M.strL l) j : Nat) : Int)) ∧ Ro wr gs n (M.strI l) ∧ Below w.heap.size w wr ∧ B ≤ wr.heap.size)) (fun _ i _ => n - (intOf i).toNat)
      case atStart => exact ⟨0, 0, none, 0, Nat.zero_le _, rfl, rfl, rfl, HI.out⟩
      case round =>
        clear HI
        obtain ⟨k, m, a, cc, hk, hmk, rfl, rfl, HR⟩ := hrel
        have HMK := hid hmk
        clear hmk
        have hmb : m ≤ k := by rw [HMK.out]; have := M.cnP_near (M.nd (M.strL l)) (Nat.zero_le k); have e : M.cnP (M.nd (M.strL l)) 0 = 0 := rfl; unfold M.cnt; omega
        by_cases hlt : k < n
        · have i2 : (k : Int) < (n : Int) := by omega
          have i5 : (k : Int) < (n : Int) + 1 := by omega
          have hkl : k < l.length := by rw [HH.out.1]; exact hlt
          have cn := HR.out.2.1.cell k hlt
          cases hc : M.nd (M.strL l) k with
          | false =>
            simp only [hc] at cn
            have HE := hid (show m = M.cnt (M.strL l) (k + 1) ∧ M.lsP (M.nd (M.strL l)) (k + 1) = M.lsP (M.nd (M.strL l)) k from
              ⟨by rw [HMK.out]; unfold M.cnt; rw [M.cnP_succ, hc]; simp, by rw [M.lsP_succ, hc]; simp⟩)
            clear hc
            go_wp2
            go_roundw
            case rel => exact ⟨k + 1, m, a, cc, by omega, HE.out.1, rfl, by go_num, by rw [HE.out.2]; exact HR.out⟩
            case measure => simp [intOf]; omega
          | true =>
            simp only [hc] at cn
            obtain ⟨acc, hacc⟩ : ∃ acc, (M.lsP (M.nd (M.strL l)) k).map (M.rndI (M.strL l)) = acc := ⟨_, rfl⟩
            obtain ⟨y, hy⟩ : ∃ y, M.rndI (M.strL l) k = y := ⟨_, rfl⟩
            have HE := hid (show M.cnt (M.strL l) (k + 1) = m + 1 ∧ (M.lsP (M.nd (M.strL l)) (k + 1)).map (M.rndI (M.strL l)) = acc ++ [y] from
              ⟨by rw [HMK.out]; unfold M.cnt; rw [M.cnP_succ, hc]; simp, by rw [M.lsP_succ, hc, if_pos rfl, List.map_append, hacc, List.map_cons, List.map_nil, hy]⟩)
            rw [hacc] at HR
            obtain ⟨x, hx⟩ : ∃ x, M.strI l k = x := ⟨_, rfl⟩
            have h0x : M.at0 (M.strL l) k = x := by rw [M.strL_at hkl]; exact hx
            have hok : M.okI x := hx ▸ M.strI_ok HH.out.2.2.2 HH.out.2.1 k
            have r0 := HR.out.2.2.2.1.c0 k hlt
            have r1 := HR.out.2.2.2.1.c1 k hlt
            have r2 := HR.out.2.2.2.1.c2 k hlt
            have r3 := HR.out.2.2.2.1.c3 k hlt
            rw [hx] at r0 r1 r2 r3
            have hrn : ∀ t, k < t → t ≤ n → m < M.cnt (M.strL l) t ∧ M.cnt (M.strL l) t ≤ m + (t - k) := fun t h1 h2 => by
              rw [HMK.out]
              unfold M.cnt
              exact ⟨M.cnP_lt _ h1 hc, M.cnP_near _ (by omega)⟩
            have HKJ := hid (fun (h : M.kind x.1 = 11) => (show k + 1 + x.2.2.2.toNat < n ∧ y = (x.1, x.2.1, x.2.2.1, ((M.cnt (M.strL l) (k + 1 + x.2.2.2.toNat) - m - 1 : Nat) : Int)) from by
              have hj : M.isJa (M.at0 l k) = true := by rw [← M.strL_ja, h0x]; exact M.isJa_iff.2 h
              have e : M.tgt (M.strL l) k = k + 1 + x.2.2.2.toNat := by unfold M.tgt; rw [h0x]
              refine ⟨by rw [← e, M.strL_tgt hj, ← HH.out.1]; exact M.endOf_lt HH.out.2.2.2 HH.out.2.1 hkl, ?_⟩
              rw [← hy]
              unfold M.rndI
              rw [h0x, if_pos h, e, HMK.out]))
            have HKI := hid (fun (h : M.kind x.1 = 12) => (show (k + 1 + x.2.1.toNat < n ∧ k + 1 + x.2.2.1.toNat < n) ∧ y = (x.1, ((M.cnt (M.strL l) (k + 1 + x.2.1.toNat) - m - 1 : Nat) : Int), ((M.cnt (M.strL l) (k + 1 + x.2.2.1.toNat) - m - 1 : Nat) : Int), x.2.2.2) from by
              have h' : M.kind (M.at0 (M.strL l) k).1 = 12 := by rw [h0x]; exact h
              have hrt : M.rets (M.at0 l k) = false := by unfold M.rets; rw [← M.strL_code, h']; rfl
              have g1 := M.str_sel HH.out.2.2.2 HH.out.2.1 hkl hrt true
              have g2 := M.str_sel HH.out.2.2.2 HH.out.2.1 hkl hrt false
              unfold M.sel at g1 g2
              rw [if_neg (by omega), if_pos h', if_pos rfl, h0x, HH.out.1] at g1
              rw [if_neg (by omega), if_pos h', if_neg (by simp), h0x, HH.out.1] at g2
              refine ⟨⟨g1, g2⟩, ?_⟩
              rw [← hy]
              unfold M.rndI
              rw [h0x, if_neg (show ¬ M.kind x.1 = 11 by omega), if_pos h, HMK.out]))
            have HKN := hid (fun (h1 : M.kind x.1 ≠ 11) (h2 : M.kind x.1 ≠ 12) => (show y = x from by
              rw [← hy]
              unfold M.rndI
              rw [h0x, if_neg h1, if_neg h2]))
            clear hx h0x hy hacc hc
            obtain ⟨c, t, f, d⟩ := x
            obtain ⟨b0, b1, b2, b3⟩ := hok
            simp only at b0 b1 b2 b3 r0 r1 r2 r3 HKJ HKI HKN
            obtain ⟨t, rfl⟩ : ∃ t' : Nat, t = t' := ⟨t.toNat, by omega⟩
            obtain ⟨f, rfl⟩ : ∃ f' : Nat, f = f' := ⟨f.toNat, by omega⟩
            obtain ⟨d, rfl⟩ : ∃ d' : Nat, d = d' := ⟨d.toNat, by omega⟩
            simp only [Int.toNat_natCast] at HKJ HKI
            have hbk := hid b0
            clear b0
            have hA := At.new wr c t f d
            obtain ⟨h, hh⟩ : ∃ h, wr.heap.size = h := ⟨_, rfl⟩
            have hBh : B ≤ h := by rw [← hh]; exact HR.out.2.2.2.2.2
            have HR1 := hid (show Own (wr.alloc (.cells #[.int .u16 c, .int .u8 t, .int .u8 f, .int .u32 d] 46)) B a m cc acc ∧ Row (wr.alloc (.cells #[.int .u16 c, .int .u8 t, .int .u8 f, .int .u32 d] 46)) gn n (fun j => .bool (M.nd (M.strL l) j)) ∧ Row (wr.alloc (.cells #[.int .u16 c, .int .u8 t, .int .u8 f, .int .u32 d] 46)) ga (n + 1) (fun j => .int .i64 ((M.cnt (M.strL l) j : Nat) : Int)) ∧ Ro (wr.alloc (.cells #[.int .u16 c, .int .u8 t, .int .u8 f, .int .u32 d] 46)) gs n (M.strI l) ∧ Below w.heap.size w (wr.alloc (.cells #[.int .u16 c, .int .u8 t, .int .u8 f, .int .u32 d] 46)) ∧ B ≤ (wr.alloc (.cells #[.int .u16 c, .int .u8 t, .int .u8 f, .int .u32 d] 46)).heap.size from
              ⟨HR.out.1.below (al _ _), HR.out.2.1.below (al _ _), HR.out.2.2.1.below (al _ _), HR.out.2.2.2.1.below (al _ _), (stp (hid HR.out.2.2.2.2.1) (al _ _)).out, Nat.le_trans HR.out.2.2.2.2.2 (al _ _).size⟩)
            have HOff := hid (show ∀ A, a = some A → A.block ≠ h from fun A hA => by
              obtain ⟨a', c', e, hab⟩ := own_slice HR.out.1.own
              injection e with e1 e2 e3
              subst e1
              have := (hab A hA).2
              omega)
            rw [hh] at hA
            clear HR
            go_wp2_with fail
            refine (rkind_any _ hbk.out.1 hbk.out.2 _).mono ?_
            rintro e w3 ⟨rfl, hb⟩
            try rw [hh]
            replace hA := hA.below hb
            have HV := hid (show Own w3 B a m cc acc ∧ Row w3 gn n (fun j => .bool (M.nd (M.strL l) j)) ∧ Row w3 ga (n + 1) (fun j => .int .i64 ((M.cnt (M.strL l) j : Nat) : Int)) ∧ Ro w3 gs n (M.strI l) ∧ Below w.heap.size w w3 ∧ B ≤ w3.heap.size from
              ⟨HR1.out.1.below hb, HR1.out.2.1.below hb, HR1.out.2.2.1.below hb, HR1.out.2.2.2.1.below hb, (stp (hid HR1.out.2.2.2.2.1) hb).out, Nat.le_trans HR1.out.2.2.2.2.2 hb.size⟩)
            obtain ⟨a0, a1, a2', a3, af⟩ := hA.cells
            clear hb HR1 r0 r1 r2 r3 hh cn
            by_cases h11 : M.kind c = 11
            · have d1 : (M.kind c == 11) = true := by simpa using h11
              obtain ⟨ht, hyy⟩ := HKJ.out h11
              obtain ⟨A, hAA⟩ : ∃ A, M.cnt (M.strL l) (k + 1 + d) = A := ⟨_, rfl⟩
              obtain ⟨hA1, hA2⟩ := hrn (k + 1 + d) (by omega) (by omega)
              have cA := HV.out.2.2.1.cell (k + 1 + d) (by omega)
              have cC := HV.out.2.2.1.cell k (by omega)
              simp only [hAA] at cA
              rw [hAA] at hA1 hA2 hyy
              simp only [← HMK.out] at cC
              have i6 : (k : Int) + 1 + (d : Int) < (n : Int) + 1 := by omega
              have i7 : 0 ≤ (k : Int) + 1 + (d : Int) := by omega
              have i10 : ((k : Int) + 1 + (d : Int)).toNat = k + 1 + d := by omega
              have z1 : IntKind.i64.wrap ((k : Int) + 1) = (k : Int) + 1 := Go.IntWalk.i64_in _ (by omega)
              have z2 : IntKind.i64.wrap (d : Int) = (d : Int) := Go.IntWalk.i64_in _ (by omega)
              have z3 : IntKind.i64.wrap ((k : Int) + 1 + (d : Int)) = (k : Int) + 1 + (d : Int) := Go.IntWalk.i64_in _ (by omega)
              have z4 : IntKind.i64.wrap ((A : Int) - (m : Int)) = (A : Int) - (m : Int) := Go.IntWalk.i64_in _ (by omega)
              have z5 : IntKind.i64.wrap ((A : Int) - (m : Int) - 1) = (A : Int) - (m : Int) - 1 := Go.IntWalk.i64_in _ (by omega)
              have z6 : IntKind.u32.wrap ((A : Int) - (m : Int) - 1) = (A : Int) - (m : Int) - 1 := Go.IntWalk.u32_in _ (by omega)
              have HXE := hid (show (c, (t : Int), (f : Int), (A : Int) - m - 1) = y by
                rw [hyy]
                have : ((A - m - 1 : Nat) : Int) = (A : Int) - m - 1 := by omega
                rw [this])
              obtain ⟨w4, hw4⟩ : ∃ w4, (World.drew w3).setCell ⟨h, 3, none⟩ (.int .u32 ((A : Int) - m - 1)) = w4 := ⟨_, rfl⟩
              have hA4 : At w4 h c t f ((A : Int) - m - 1) := by rw [← hw4]; exact At.set3 _ hA
              replace HV := hid (show Own w4 B a m cc acc ∧ Row w4 gn n (fun j => .bool (M.nd (M.strL l) j)) ∧ Row w4 ga (n + 1) (fun j => .int .i64 ((M.cnt (M.strL l) j : Nat) : Int)) ∧ Ro w4 gs n (M.strI l) ∧ Below w.heap.size w w4 ∧ B ≤ w4.heap.size from by
                rw [← hw4]
                exact ⟨⟨own_off HV.out.1.own.drew HOff.out, HV.out.1.len⟩, (HV.out.2.1.below (Below.refl _ _).drew).other _ _ _ (by omega), (HV.out.2.2.1.below (Below.refl _ _).drew).other _ _ _ (by omega), (HV.out.2.2.2.1.below (Below.refl _ _).drew).off (by omega), (HV.out.2.2.2.2.1.drew).setCell (by simp; omega) _, by simpa using HV.out.2.2.2.2.2⟩)
              obtain ⟨e0, e1, e2, e3, _⟩ := hA4.cells
              have f3 := af 3
              clear hAA hyy h11 HKJ HKI HKN hA hrn
              go_wp2
              refine wp_region_still_tail 16 (by kernel_rfl) (by kernel_rfl) ?_
              change wpStill _ _ (World.drew w3) (fun a' => wpList _ _ _ _ a' (World.drew w3)) _ _
              simp only [List.take_succ_cons, List.take_zero, List.drop_succ_cons, List.drop_zero]
              repeat still_step
              refine wpStill_nil ?_
              go_wp2_with (at_builtin; refine wpList_append_row (by rfl) _ _ rfl B m 1 cc 1 a (some ⟨w4.heap.size, 0, none⟩) acc [(c, (t : Int), (f : Int), (A : Int) - m - 1)] rfl (HV.out.1.below (al _ _)) rfl (lies_lit w4 [(c, (t : Int), (f : Int), (A : Int) - m - 1)] 1 rfl (by unfold maxLen; omega)) rfl (by omega) (Nat.le_trans HV.out.2.2.2.2.2 (al w4 (.cells (i4s [(c, (t : Int), (f : Int), (A : Int) - m - 1)]).toArray 46)).size) ?_)
              intro a2 cap2 w9 hown hb9
              have HZ := hid (show Own w9 B a2 (m + 1) cap2 ((M.lsP (M.nd (M.strL l)) (k + 1)).map (M.rndI (M.strL l))) ∧ Row w9 gn n (fun j => .bool (M.nd (M.strL l) j)) ∧ Row w9 ga (n + 1) (fun j => .int .i64 ((M.cnt (M.strL l) j : Nat) : Int)) ∧ Ro w9 gs n (M.strI l) ∧ Below w.heap.size w w9 ∧ B ≤ w9.heap.size from
                ⟨by rw [HE.out.2, ← HXE.out]; exact hown, HV.out.2.1.far ((Below.refl B w4).alloc HV.out.2.2.2.2.2 _ |>.trans hb9) hBn, HV.out.2.2.1.far ((Below.refl B w4).alloc HV.out.2.2.2.2.2 _ |>.trans hb9) hBa, HV.out.2.2.2.1.far ((Below.refl B w4).alloc HV.out.2.2.2.2.2 _ |>.trans hb9) hBs, HV.out.2.2.2.2.1.trans (((Below.refl B w4).alloc HV.out.2.2.2.2.2 _ |>.trans hb9).mono (by omega)), Nat.le_trans HV.out.2.2.2.2.2 ((Below.refl B w4).alloc HV.out.2.2.2.2.2 _ |>.trans hb9).size⟩)
              clear hown hb9 HV HXE
              go_wp2
              go_roundw
              case rel => exact ⟨k + 1, m + 1, a2, cap2, by omega, HE.out.1.symm, rfl, by go_num, HZ.out⟩
              case measure => simp [intOf]; omega
            · have d1 : (M.kind c == 11) = false := by simpa using h11
              by_cases h12 : M.kind c = 12
              · have d2 : (M.kind c == 12) = true := by simpa using h12
                obtain ⟨⟨ht1, ht2⟩, hyy⟩ := HKI.out h12
                obtain ⟨A, hAA⟩ : ∃ A, M.cnt (M.strL l) (k + 1 + t) = A := ⟨_, rfl⟩
                obtain ⟨C, hCC⟩ : ∃ C, M.cnt (M.strL l) (k + 1 + f) = C := ⟨_, rfl⟩
                obtain ⟨hA1, hA2⟩ := hrn (k + 1 + t) (by omega) (by omega)
                obtain ⟨hC1, hC2⟩ := hrn (k + 1 + f) (by omega) (by omega)
                rw [hAA] at hA1 hA2 hyy
                rw [hCC] at hC1 hC2 hyy
                have cA := HV.out.2.2.1.cell (k + 1 + t) (by omega)
                have cC := HV.out.2.2.1.cell k (by omega)
                simp only [hAA] at cA
                simp only [← HMK.out] at cC
                have i6 : (k : Int) + 1 + (t : Int) < (n : Int) + 1 := by omega
                have i7 : 0 ≤ (k : Int) + 1 + (t : Int) := by omega
                have i8 : (k : Int) + 1 + (f : Int) < (n : Int) + 1 := by omega
                have i9 : 0 ≤ (k : Int) + 1 + (f : Int) := by omega
                have i10 : ((k : Int) + 1 + (t : Int)).toNat = k + 1 + t := by omega
                have i11 : ((k : Int) + 1 + (f : Int)).toNat = k + 1 + f := by omega
                have z1 : IntKind.i64.wrap ((k : Int) + 1) = (k : Int) + 1 := Go.IntWalk.i64_in _ (by omega)
                have z2 : IntKind.i64.wrap (t : Int) = (t : Int) := Go.IntWalk.i64_in _ (by omega)
                have z2' : IntKind.i64.wrap (f : Int) = (f : Int) := Go.IntWalk.i64_in _ (by omega)
                have z3 : IntKind.i64.wrap ((k : Int) + 1 + (t : Int)) = (k : Int) + 1 + (t : Int) := Go.IntWalk.i64_in _ (by omega)
                have z3' : IntKind.i64.wrap ((k : Int) + 1 + (f : Int)) = (k : Int) + 1 + (f : Int) := Go.IntWalk.i64_in _ (by omega)
                have z4 : IntKind.i64.wrap ((A : Int) - (m : Int)) = (A : Int) - (m : Int) := Go.IntWalk.i64_in _ (by omega)
                have z5 : IntKind.i64.wrap ((A : Int) - (m : Int) - 1) = (A : Int) - (m : Int) - 1 := Go.IntWalk.i64_in _ (by omega)
                have z6 : IntKind.u8.wrap ((A : Int) - (m : Int) - 1) = (A : Int) - (m : Int) - 1 := Go.IntWalk.u8_in _ (by omega)
                have z4' : IntKind.i64.wrap ((C : Int) - (m : Int)) = (C : Int) - (m : Int) := Go.IntWalk.i64_in _ (by omega)
                have z5' : IntKind.i64.wrap ((C : Int) - (m : Int) - 1) = (C : Int) - (m : Int) - 1 := Go.IntWalk.i64_in _ (by omega)
                have z6' : IntKind.u8.wrap ((C : Int) - (m : Int) - 1) = (C : Int) - (m : Int) - 1 := Go.IntWalk.u8_in _ (by omega)
                have HXE := hid (show (c, (A : Int) - m - 1, (C : Int) - m - 1, (d : Int)) = y by
                  rw [hyy]
                  have e1 : ((A - m - 1 : Nat) : Int) = (A : Int) - m - 1 := by omega
                  have e2 : ((C - m - 1 : Nat) : Int) = (C : Int) - m - 1 := by omega
                  rw [e1, e2])
                obtain ⟨w4, hw4⟩ : ∃ w4, (World.drew w3).setCell ⟨h, 1, none⟩ (.int .u8 ((A : Int) - m - 1)) = w4 := ⟨_, rfl⟩
                have hA4 : At w4 h c ((A : Int) - m - 1) f d := by rw [← hw4]; exact At.set1 _ hA
                replace HV := hid (show Own w4 B a m cc acc ∧ Row w4 gn n (fun j => .bool (M.nd (M.strL l) j)) ∧ Row w4 ga (n + 1) (fun j => .int .i64 ((M.cnt (M.strL l) j : Nat) : Int)) ∧ Ro w4 gs n (M.strI l) ∧ Below w.heap.size w w4 ∧ B ≤ w4.heap.size from by
                  rw [← hw4]
                  exact ⟨⟨own_off HV.out.1.own.drew HOff.out, HV.out.1.len⟩, (HV.out.2.1.below (Below.refl _ _).drew).other _ _ _ (by omega), (HV.out.2.2.1.below (Below.refl _ _).drew).other _ _ _ (by omega), (HV.out.2.2.2.1.below (Below.refl _ _).drew).off (by omega), (HV.out.2.2.2.2.1.drew).setCell (by simp; omega) _, by simpa using HV.out.2.2.2.2.2⟩)
                obtain ⟨e0, e1, e2, e3, ef⟩ := hA4.cells
                have cA' := HV.out.2.2.1.cell (k + 1 + f) (by omega)
                have cC' := HV.out.2.2.1.cell k (by omega)
                simp only [hCC] at cA'
                simp only [← HMK.out] at cC'
                obtain ⟨w5, hw5⟩ : ∃ w5, (World.drew w4).setCell ⟨h, 2, none⟩ (.int .u8 ((C : Int) - m - 1)) = w5 := ⟨_, rfl⟩
                have hA5 : At w5 h c ((A : Int) - m - 1) ((C : Int) - m - 1) d := by rw [← hw5]; exact At.set2 _ hA4
                replace HV := hid (show Own w5 B a m cc acc ∧ Row w5 gn n (fun j => .bool (M.nd (M.strL l) j)) ∧ Row w5 ga (n + 1) (fun j => .int .i64 ((M.cnt (M.strL l) j : Nat) : Int)) ∧ Ro w5 gs n (M.strI l) ∧ Below w.heap.size w w5 ∧ B ≤ w5.heap.size from by
                  rw [← hw5]
                  exact ⟨⟨own_off HV.out.1.own.drew HOff.out, HV.out.1.len⟩, (HV.out.2.1.below (Below.refl _ _).drew).other _ _ _ (by omega), (HV.out.2.2.1.below (Below.refl _ _).drew).other _ _ _ (by omega), (HV.out.2.2.2.1.below (Below.refl _ _).drew).off (by omega), (HV.out.2.2.2.2.1.drew).setCell (by simp; omega) _, by simpa using HV.out.2.2.2.2.2⟩)
                obtain ⟨g0, g1, g2, g3, _⟩ := hA5.cells
                have f1 := af 1
                have f2 := ef 2
                clear hAA hCC hyy h11 h12 HKJ HKI HKN hA hA4 hrn
                go_wp2
                refine wp_region_still_tail 16 (by kernel_rfl) (by kernel_rfl) ?_
                change wpStill _ _ (World.drew w3) (fun a' => wpList _ _ _ _ a' (World.drew w3)) _ _
                simp only [List.take_succ_cons, List.take_zero, List.drop_succ_cons, List.drop_zero]
                repeat still_step
                refine wpStill_nil ?_
                go_wp2
                refine wp_region_still_tail 16 (by kernel_rfl) (by kernel_rfl) ?_
                change wpStill _ _ (World.drew w4) (fun a' => wpList _ _ _ _ a' (World.drew w4)) _ _
                simp only [List.take_succ_cons, List.take_zero, List.drop_succ_cons, List.drop_zero]
                repeat still_step
                refine wpStill_nil ?_
                go_wp2_with (at_builtin; refine wpList_append_row (by rfl) _ _ rfl B m 1 cc 1 a (some ⟨w5.heap.size, 0, none⟩) acc [(c, (A : Int) - m - 1, (C : Int) - m - 1, (d : Int))] rfl (HV.out.1.below (al _ _)) rfl (lies_lit w5 [(c, (A : Int) - m - 1, (C : Int) - m - 1, (d : Int))] 1 rfl (by unfold maxLen; omega)) rfl (by omega) (Nat.le_trans HV.out.2.2.2.2.2 (al w5 (.cells (i4s [(c, (A : Int) - m - 1, (C : Int) - m - 1, (d : Int))]).toArray 46)).size) ?_)
                intro a2 cap2 w9 hown hb9
                have HZ := hid (show Own w9 B a2 (m + 1) cap2 ((M.lsP (M.nd (M.strL l)) (k + 1)).map (M.rndI (M.strL l))) ∧ Row w9 gn n (fun j => .bool (M.nd (M.strL l) j)) ∧ Row w9 ga (n + 1) (fun j => .int .i64 ((M.cnt (M.strL l) j : Nat) : Int)) ∧ Ro w9 gs n (M.strI l) ∧ Below w.heap.size w w9 ∧ B ≤ w9.heap.size from
                  ⟨by rw [HE.out.2, ← HXE.out]; exact hown, HV.out.2.1.far ((Below.refl B w5).alloc HV.out.2.2.2.2.2 _ |>.trans hb9) hBn, HV.out.2.2.1.far ((Below.refl B w5).alloc HV.out.2.2.2.2.2 _ |>.trans hb9) hBa, HV.out.2.2.2.1.far ((Below.refl B w5).alloc HV.out.2.2.2.2.2 _ |>.trans hb9) hBs, HV.out.2.2.2.2.1.trans (((Below.refl B w5).alloc HV.out.2.2.2.2.2 _ |>.trans hb9).mono (by omega)), Nat.le_trans HV.out.2.2.2.2.2 ((Below.refl B w5).alloc HV.out.2.2.2.2.2 _ |>.trans hb9).size⟩)
                clear hown hb9 HV HXE
                go_wp2
                go_roundw
                case rel => exact ⟨k + 1, m + 1, a2, cap2, by omega, HE.out.1.symm, rfl, by go_num, HZ.out⟩
                case measure => simp [intOf]; omega
              · have d2 : (M.kind c == 12) = false := by simpa using h12
                have HXE := hid (HKN.out h11 h12).symm
                clear h11 h12 HKJ HKI HKN hrn
                go_wp2_with (at_builtin; refine wpList_append_row (by rfl) _ _ rfl B m 1 cc 1 a (some ⟨w3.heap.size, 0, none⟩) acc [(c, (t : Int), (f : Int), (d : Int))] rfl (HV.out.1.below (al _ _)) rfl (lies_lit w3 [(c, (t : Int), (f : Int), (d : Int))] 1 rfl (by unfold maxLen; omega)) rfl (by omega) (Nat.le_trans HV.out.2.2.2.2.2 (al w3 (.cells (i4s [(c, (t : Int), (f : Int), (d : Int))]).toArray 46)).size) ?_)
                intro a2 cap2 w9 hown hb9
                have HZ := hid (show Own w9 B a2 (m + 1) cap2 ((M.lsP (M.nd (M.strL l)) (k + 1)).map (M.rndI (M.strL l))) ∧ Row w9 gn n (fun j => .bool (M.nd (M.strL l) j)) ∧ Row w9 ga (n + 1) (fun j => .int .i64 ((M.cnt (M.strL l) j : Nat) : Int)) ∧ Ro w9 gs n (M.strI l) ∧ Below w.heap.size w w9 ∧ B ≤ w9.heap.size from
                  ⟨by rw [HE.out.2, ← HXE.out]; exact hown, HV.out.2.1.far ((Below.refl B w3).alloc HV.out.2.2.2.2.2 _ |>.trans hb9) hBn, HV.out.2.2.1.far ((Below.refl B w3).alloc HV.out.2.2.2.2.2 _ |>.trans hb9) hBa, HV.out.2.2.2.1.far ((Below.refl B w3).alloc HV.out.2.2.2.2.2 _ |>.trans hb9) hBs, HV.out.2.2.2.2.1.trans (((Below.refl B w3).alloc HV.out.2.2.2.2.2 _ |>.trans hb9).mono (by omega)), Nat.le_trans HV.out.2.2.2.2.2 ((Below.refl B w3).alloc HV.out.2.2.2.2.2 _ |>.trans hb9).size⟩)
                clear hown hb9 HV HXE
                go_wp2
                go_roundw
                case rel => exact ⟨k + 1, m + 1, a2, cap2, by omega, HE.out.1.symm, rfl, by go_num, HZ.out⟩
                case measure => simp [intOf]; omega
        · obtain rfl : k = n := by omega
          have HF := hid (show Lies wr a (M.roundL l) ∧ m = (M.roundL l).length from by
            have e : M.roundL l = (M.lsP (M.nd (M.strL l)) k).map (M.rndI (M.strL l)) := by
              unfold M.roundL M.rndL
              rw [M.strL_len, HH.out.1]
            refine ⟨by rw [e]; exact HR.out.1.lies, ?_⟩
            rw [HMK.out]
            unfold M.roundL
            rw [M.rndL_len, M.strL_len, HH.out.1])
          go_wp2
          go_ret
          exact ⟨a, cc, by rw [← HF.out.2]; rfl, HF.out.1, HR.out.2.2.2.2.1⟩
end Go.Proofs.Ytahaooghebmhnaa.B
