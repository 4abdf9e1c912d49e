/-
  The program's round, as a walk over the Go text.
-/
import Derived.Test.YtahaooghebmhnaaPruCodE
import Derived.Test.YtahaooghebmhnaaPruCodF
import Derived.Test.YtahaooghebmhnaaPruRefD
namespace Go.Proofs.Ytahaooghebmhnaa.B
open Go.ChangeShapes Go.WideShapes Go.ChangeAt Go.RowKit
open Go.Sort hiding Below
set_option linter.unusedVariables false

theorem cturn_rnd (n k gc c1 c2 : Nat) (l : List M.I) (hln : l.length = n) (hn : n ≤ 4096) (ok : ∀ i ∈ l, M.okI i) (hr : M.right l) (hk : k < n) (hc : M.nd (M.strL l) k = true) (c t f d : Int) (hx : M.strI l k = (c, t, f, d))
    (w : World) (hR : Row w gc n (fun j => .int .i64 ((M.cnP (M.nd (M.strL l)) j : Nat) : Int))) (h1 : w.cell? ⟨c1, 0, none⟩ = some (.slice (some ⟨gc, 0, none⟩) n n)) (h2 : w.cell? ⟨c2, 0, none⟩ = some (.int .i64 k)) (y : M.I) (hy : M.rndI (M.strL l) k = y) :
    Calls Try.prog 37 #[.agg #[.int .u16 c, .int .u8 t, .int .u8 f, .int .u32 d], .func (.func 38) #[] #[.pointer (some ⟨c1, 0, none⟩), .pointer (some ⟨c2, 0, none⟩)]] w fun e w' => e = .returned (.agg #[.int .u16 y.1, .int .u8 y.2.1, .int .u8 y.2.2.1, .int .u32 y.2.2.2]) ∧ Below w.heap.size w w' := by
  have hkl : k < l.length := by omega
  have hok : M.okI (c, t, f, d) := by rw [← hx]; exact M.strI_ok hr ok k
  have h0x : M.at0 (M.strL l) k = (c, t, f, d) := by rw [M.strL_at hkl]; exact hx
  obtain ⟨_, b1, b2, b3⟩ := id hok
  simp only at b1 b2 b3
  have cf : ∀ {a : Nat} {v : Value} {W : World}, w.cell? ⟨a, 0, none⟩ = some v → Below w.heap.size w W → W.cell? ⟨a, 0, none⟩ = some v := fun h hb => (hb.cell (block_lt_of_cell h)).trans h
  have hs : M.cnP (M.nd (M.strL l)) (k + 1) = M.cnP (M.nd (M.strL l)) k + 1 := by rw [M.cnP_succ, hc, if_pos rfl]
  have hq : ∀ q, k + 1 + q < n → M.cnP (M.nd (M.strL l)) (k + 1) ≤ M.cnP (M.nd (M.strL l)) (k + 1 + q) ∧ M.cnP (M.nd (M.strL l)) (k + 1 + q) ≤ M.cnP (M.nd (M.strL l)) (k + 1) + q ∧ M.cnP (M.nd (M.strL l)) (k + 1 + q) ≤ 4096 := fun q h => by
    have e1 := M.cnP_mono (M.nd (M.strL l)) (show k + 1 ≤ k + 1 + q by omega)
    have e2 := M.cnP_near (M.nd (M.strL l)) (show k + 1 ≤ k + 1 + q by omega)
    have e3 := M.cnP_near (M.nd (M.strL l)) (Nat.zero_le (k + 1 + q))
    have e4 : M.cnP (M.nd (M.strL l)) 0 = 0 := rfl
    exact ⟨e1, by omega, by omega⟩
  by_cases k1 : M.kind c = 11
  · have hj : M.isJa (M.at0 l k) = true := by rw [← M.strL_ja, h0x]; exact M.isJa_iff.2 k1
    have ht : M.tgt (M.strL l) k = k + 1 + d.toNat := by unfold M.tgt; rw [h0x]
    have htl : k + 1 + d.toNat < n := by rw [← ht, M.strL_tgt hj, ← hln]; exact M.endOf_lt hr ok hkl
    have hyy : y = (c, t, f, ((M.cnP (M.nd (M.strL l)) (k + 1 + d.toNat) - M.cnP (M.nd (M.strL l)) k - 1 : Nat) : Int)) := by
      rw [← hy]
      unfold M.rndI
      rw [h0x, if_pos k1, ht]
      rfl
    obtain ⟨q, rfl⟩ : ∃ q : Nat, d = q := ⟨d.toNat, by omega⟩
    simp only [Int.toNat_natCast] at htl hyy
    obtain ⟨e1, e2, e3⟩ := hq q htl
    have er : M.cnP (M.nd (M.strL l)) (k + 1 + q) - M.cnP (M.nd (M.strL l)) k - 1 = M.cnP (M.nd (M.strL l)) (k + 1 + q) - M.cnP (M.nd (M.strL l)) (k + 1) := by omega
    rw [er] at hyy
    rw [hyy]
    exact cturn_jaR c t f q hok c1 c2 w k1 _ (by omega) (fun W hW => cnear gc n k q _ (M.cnP (M.nd (M.strL l))) hn htl (by omega) e3 c1 c2 W (hR.below hW) (cf h1 hW) (cf h2 hW))
  · by_cases k2 : M.kind c = 12
    · have h' : M.kind (M.at0 (M.strL l) k).1 = 12 := by rw [h0x]; exact k2
      have hrt : M.rets (M.at0 l k) = false := by unfold M.rets; rw [← M.strL_code, h']; rfl
      have g1 := M.str_sel hr ok hkl hrt true
      have g2 := M.str_sel hr ok hkl hrt false
      unfold M.sel at g1 g2
      rw [if_neg (by omega), if_pos h', if_pos rfl, h0x, hln] at g1
      rw [if_neg (by omega), if_pos h', if_neg (by simp), h0x, hln] at g2
      have hyy : y = (c, ((M.cnP (M.nd (M.strL l)) (k + 1 + t.toNat) - M.cnP (M.nd (M.strL l)) k - 1 : Nat) : Int), ((M.cnP (M.nd (M.strL l)) (k + 1 + f.toNat) - M.cnP (M.nd (M.strL l)) k - 1 : Nat) : Int), d) := by
        rw [← hy]
        unfold M.rndI
        rw [h0x, if_neg k1, if_pos k2]
        rfl
      obtain ⟨q, rfl⟩ : ∃ q : Nat, t = q := ⟨t.toNat, by omega⟩
      obtain ⟨p, rfl⟩ : ∃ p : Nat, f = p := ⟨f.toNat, by omega⟩
      simp only [Int.toNat_natCast] at g1 g2 hyy
      obtain ⟨e1, e2, e3⟩ := hq q g1
      obtain ⟨e4, e5, e6⟩ := hq p g2
      have er : M.cnP (M.nd (M.strL l)) (k + 1 + q) - M.cnP (M.nd (M.strL l)) k - 1 = M.cnP (M.nd (M.strL l)) (k + 1 + q) - M.cnP (M.nd (M.strL l)) (k + 1) := by omega
      have es : M.cnP (M.nd (M.strL l)) (k + 1 + p) - M.cnP (M.nd (M.strL l)) k - 1 = M.cnP (M.nd (M.strL l)) (k + 1 + p) - M.cnP (M.nd (M.strL l)) (k + 1) := by omega
      rw [er, es] at hyy
      rw [hyy]
      exact cturn_jifR c q p d hok c1 c2 w k2 _ _ (by omega) (by omega)
        (fun W hW => cnear gc n k q _ (M.cnP (M.nd (M.strL l))) hn g1 (by omega) e3 c1 c2 W (hR.below hW) (cf h1 hW) (cf h2 hW))
        (fun W hW => cnear gc n k p _ (M.cnP (M.nd (M.strL l))) hn g2 (by omega) e6 c1 c2 W (hR.below hW) (cf h1 hW) (cf h2 hW))
    · have hyy : y = (c, t, f, d) := by
        rw [← hy]
        unfold M.rndI
        rw [h0x, if_neg k1, if_neg k2]
      rw [hyy]
      exact cturn_noR c t f d hok c1 c2 w k1 k2

set_option maxHeartbeats 6400000 in
set_option maxRecDepth 1000000 in
theorem cround (b o n cap : Nat) (l : List M.I) (hln : l.length = n) (hn : n ≤ 4096) (ok : ∀ i ∈ l, M.okI i) (hr : M.right l) (w : World) (hl : Ly w b o l) :
    Calls Try.prog 23 #[.slice (some ⟨b, o, none⟩) n cap] w fun e w' => ∃ a c, e = .returned (.slice a (M.roundL l).length c) ∧ Lies w' a (M.roundL l) ∧ Below w.heap.size w w' := by
  have HC := hid (cstraight b o n cap l hln hn ok hr w hl)
  have HN := hid (fun g W (h : Ly W g 0 (M.strL l)) => cneeded g 0 n n (M.strL l) (by rw [M.strL_len]; exact hln) hn (M.strL_ok hr ok) (M.str_right hr ok) W h)
  have HK := hid (fun g W h => ccounts g n n (M.nd (M.strL l)) hn W h)
  have HH := hid (And.intro hln (And.intro ok hr))
  clear hln ok hl hr
  go_enter Try.func23, Try.ntmps23
  go_wp2_with fail
  refine HC.out.mono ?_
  rintro e w1 ⟨gs, rfl, hR, hb, hg⟩
  have HR := hid (And.intro hR hb)
  clear hR hb hg HC
  go_wp2_with fail
  refine (HN.out _ _ (HR.out.1.ly (by rw [M.strL_len]; exact HH.out.1) (fun j hj => by rw [← M.at0_eq hj, M.strL_at (by rw [M.strL_len] at hj; exact hj)]))).mono ?_
  rintro e w2 ⟨gn, rfl, hO, hb, hgo⟩
  have HR2 := hid (show Row w2 gn n (fun j => .bool (M.nd (M.strL l) j)) ∧ Ro w2 gs n (M.strI l) ∧ Below w.heap.size w w2 from ⟨hO, HR.out.1.below hb, (stp (hid HR.out.2) hb).out⟩)
  clear hO hb hgo HN HR
  go_wp2_with fail
  refine (HK.out _ _ HR2.out.1).mono ?_
  rintro e w3 ⟨gc, rfl, hO, hb, hgo⟩
  have hb2 := hb.trans ((al w3 (.cells #[.slice (some ⟨gc, 0, none⟩) n n] 40)).mono hb.size)
  obtain ⟨w4, hw4⟩ : ∃ w4, w3.alloc (.cells #[.slice (some ⟨gc, 0, none⟩) n n] 40) = w4 := ⟨_, rfl⟩
  obtain ⟨p4, hp4⟩ : ∃ p4, w3.heap.size = p4 := ⟨_, rfl⟩
  have HR3 := hid (show Row w4 gn n (fun j => .bool (M.nd (M.strL l) j)) ∧ Row w4 gc n (fun j => .int .i64 ((M.cnP (M.nd (M.strL l)) j : Nat) : Int)) ∧ Ro w4 gs n (M.strI l) ∧ One w4 p4 (.slice (some ⟨gc, 0, none⟩) n n) 40 ∧ Below w.heap.size w w4 from by
    rw [← hw4, ← hp4]
    exact ⟨HR2.out.1.below hb2, hO.below (al _ _), HR2.out.2.1.below hb2, One.new _ _ _, (stp (hid HR2.out.2.2) hb2).out⟩)
  clear hO hb hb2 hgo HK HR2
  try rw [hp4]
  go_wp2
  try rw [hw4]
  try rw [hp4]
  clear hw4 hp4
  obtain ⟨B, hB⟩ : ∃ B, w4.heap.size = B := ⟨_, rfl⟩
  have hBn : gn < B := by rw [← hB]; exact HR3.out.1.lt
  have hBc : gc < B := by rw [← hB]; exact HR3.out.2.1.lt
  have hBs : gs < B := by rw [← hB]; exact HR3.out.2.2.1.lt
  have hB4 : p4 < B := by rw [← hB]; exact HR3.out.2.2.2.1.lt
  have hwB : w.heap.size ≤ B := by rw [← hB]; exact HR3.out.2.2.2.2.size
  have HI := hid (show Own w4 B none 0 0 ([] : List M.I) ∧ Row w4 gn n (fun j => .bool (M.nd (M.strL l) j)) ∧ Row w4 gc n (fun j => .int .i64 ((M.cnP (M.nd (M.strL l)) j : Nat) : Int)) ∧ Ro w4 gs n (M.strI l) ∧ One w4 p4 (.slice (some ⟨gc, 0, none⟩) n n) 40 ∧ Below w.heap.size w w4 ∧ B ≤ w4.heap.size from ⟨Own.nil _ _, HR3.out.1, HR3.out.2.1, HR3.out.2.2.1, HR3.out.2.2.2.1, HR3.out.2.2.2.2, by omega⟩)
  clear HR3 hB
  go_loopw [5, 16] (fun v i wr => ∃ (k m : Nat) (a : Option Addr) (cc : Nat), k ≤ n ∧ m = M.cnt (M.strL l) k ∧ v = .slice a m cc ∧ i = .int .i64 k ∧ Hid (Own wr B a m cc ((M.lsP (M.nd (M.strL l)) k).map (M.rndI (M.strL l))) ∧ Row wr gn n (fun j => .bool (M.nd (M.strL l) j)) ∧ Row wr gc n (fun j => .int .i64 ((M.cnP (M.nd (M.strL l)) j : Nat) : Int)) ∧ Ro wr gs n (M.strI l) ∧ One wr p4 (.slice (some ⟨gc, 0, none⟩) n n) 40 ∧ Below w.heap.size w wr ∧ B ≤ wr.heap.size)) (fun _ i _ => n - (intOf i).toNat)
  case atStart => exact ⟨0, 0, none, 0, Nat.zero_le _, rfl, rfl, rfl, HI.out⟩
  case round =>
    clear HI
    obtain ⟨k, m, a, cc, hk, hmk, rfl, rfl, HR⟩ := hrel
    have HMK := hid hmk
    clear hmk
    have hmb : m ≤ k := by rw [HMK.out]; have := M.cnP_near (M.nd (M.strL l)) (Nat.zero_le k); have e : M.cnP (M.nd (M.strL l)) 0 = 0 := rfl; unfold M.cnt; omega
    by_cases hlt : k < n
    · have i2 : (k : Int) < (n : Int) := by omega
      have hkl : k < l.length := by rw [HH.out.1]; exact hlt
      obtain ⟨x, hx⟩ : ∃ x, M.strI l k = x := ⟨_, rfl⟩
      obtain ⟨c, t, f, d⟩ := x
      have r0 := HR.out.2.2.2.1.c0 k hlt
      have r1 := HR.out.2.2.2.1.c1 k hlt
      have r2 := HR.out.2.2.2.1.c2 k hlt
      have r3 := HR.out.2.2.2.1.c3 k hlt
      rw [hx] at r0 r1 r2 r3
      simp only at r0 r1 r2 r3
      have h4 := ((One.new wr (.int .i64 (k : Int)) 3).alloc (.cells #[.int .u16 c, .int .u8 t, .int .u8 f, .int .u32 d] 46))
      have hb6 := (al wr (.cells #[.int .i64 (k : Int)] 3)).trans ((al _ (.cells #[.int .u16 c, .int .u8 t, .int .u8 f, .int .u32 d] 46)).mono (al _ _).size)
      obtain ⟨acc, hacc⟩ : ∃ acc, (M.lsP (M.nd (M.strL l)) k).map (M.rndI (M.strL l)) = acc := ⟨_, rfl⟩
      rw [hacc] at HR
      have HV := hid (show Own ((wr.alloc (.cells #[.int .i64 (k : Int)] 3)).alloc (.cells #[.int .u16 c, .int .u8 t, .int .u8 f, .int .u32 d] 46)) B a m cc acc ∧ Row ((wr.alloc (.cells #[.int .i64 (k : Int)] 3)).alloc (.cells #[.int .u16 c, .int .u8 t, .int .u8 f, .int .u32 d] 46)) gn n (fun j => .bool (M.nd (M.strL l) j)) ∧ Row ((wr.alloc (.cells #[.int .i64 (k : Int)] 3)).alloc (.cells #[.int .u16 c, .int .u8 t, .int .u8 f, .int .u32 d] 46)) gc n (fun j => .int .i64 ((M.cnP (M.nd (M.strL l)) j : Nat) : Int)) ∧ Ro ((wr.alloc (.cells #[.int .i64 (k : Int)] 3)).alloc (.cells #[.int .u16 c, .int .u8 t, .int .u8 f, .int .u32 d] 46)) gs n (M.strI l) ∧ One ((wr.alloc (.cells #[.int .i64 (k : Int)] 3)).alloc (.cells #[.int .u16 c, .int .u8 t, .int .u8 f, .int .u32 d] 46)) p4 (.slice (some ⟨gc, 0, none⟩) n n) 40 ∧ Below w.heap.size w ((wr.alloc (.cells #[.int .i64 (k : Int)] 3)).alloc (.cells #[.int .u16 c, .int .u8 t, .int .u8 f, .int .u32 d] 46)) ∧ B ≤ ((wr.alloc (.cells #[.int .i64 (k : Int)] 3)).alloc (.cells #[.int .u16 c, .int .u8 t, .int .u8 f, .int .u32 d] 46)).heap.size from ⟨HR.out.1.below hb6, HR.out.2.1.below hb6, HR.out.2.2.1.below hb6, HR.out.2.2.2.1.below hb6, HR.out.2.2.2.2.1.below hb6, (stp (hid HR.out.2.2.2.2.2.1) hb6).out, Nat.le_trans HR.out.2.2.2.2.2.2 hb6.size⟩)
      have cn := HV.out.2.1.cell k hlt
      clear hb6 HR
      cases hc : M.nd (M.strL l) k with
      | false =>
        simp only [hc] at cn
        have HE := hid (show m = M.cnt (M.strL l) (k + 1) ∧ (M.lsP (M.nd (M.strL l)) (k + 1)).map (M.rndI (M.strL l)) = acc from
          ⟨by rw [HMK.out]; unfold M.cnt; rw [M.cnP_succ, hc]; simp, by rw [M.lsP_succ, hc]; simpa using hacc⟩)
        clear hc hx hacc h4
        go_wp2
        go_roundw
        case rel => exact ⟨k + 1, m, a, cc, by omega, HE.out.1, rfl, by go_num, by rw [HE.out.2]; exact HV.out⟩
        case measure => simp [intOf]; omega
      | true =>
        simp only [hc] at cn
        obtain ⟨y, hy⟩ : ∃ y, M.rndI (M.strL l) k = y := ⟨_, rfl⟩
        have HE := hid (show M.cnt (M.strL l) (k + 1) = m + 1 ∧ (M.lsP (M.nd (M.strL l)) (k + 1)).map (M.rndI (M.strL l)) = acc ++ [y] from
          ⟨by rw [HMK.out]; unfold M.cnt; rw [M.cnP_succ, hc]; simp, by rw [M.lsP_succ, hc, if_pos rfl, List.map_append, hacc, List.map_cons, List.map_nil, hy]⟩)
        obtain ⟨yc, yt, yf, yk⟩ := y
        have HT := hid (fun c2 W h1 h2 h3 => cturn_rnd n k gc p4 c2 l HH.out.1 hn HH.out.2.1 HH.out.2.2 hlt hc c t f d hx W h1 h2 h3 (yc, yt, yf, yk) hy)
        simp only at HT
        clear hc hx hacc hy
        go_wp2_with fail
        refine (HT.out _ _ HV.out.2.2.1 HV.out.2.2.2.2.1.cell h4.cell).mono ?_
        rintro e w3 ⟨rfl, hb⟩
        replace HV := hid (show Own w3 B a m cc acc ∧ Row w3 gn n (fun j => .bool (M.nd (M.strL l) j)) ∧ Row w3 gc n (fun j => .int .i64 ((M.cnP (M.nd (M.strL l)) j : Nat) : Int)) ∧ Ro w3 gs n (M.strI l) ∧ One w3 p4 (.slice (some ⟨gc, 0, none⟩) n n) 40 ∧ Below w.heap.size w w3 ∧ B ≤ w3.heap.size from ⟨HV.out.1.below hb, HV.out.2.1.below hb, HV.out.2.2.1.below hb, HV.out.2.2.2.1.below hb, HV.out.2.2.2.2.1.below hb, (stp (hid HV.out.2.2.2.2.2.1) hb).out, Nat.le_trans HV.out.2.2.2.2.2.2 hb.size⟩)
        clear hb HT h4 cn r0 r1 r2 r3
        go_wp2_with (at_builtin; refine wpList_append_row (by rfl) _ _ rfl B m 1 cc 1 a (some ⟨w3.heap.size, 0, none⟩) acc [(yc, yt, yf, yk)] rfl (HV.out.1.below (al _ _)) rfl (lies_lit w3 [(yc, yt, yf, yk)] 1 rfl (by unfold maxLen; omega)) rfl (by omega) (Nat.le_trans HV.out.2.2.2.2.2.2 (al w3 (.cells (i4s [(yc, yt, yf, yk)]).toArray 46)).size) ?_)
        intro a2 cap2 w9 hown hb9
        have hb9' := ((Below.refl B w3).alloc HV.out.2.2.2.2.2.2 (.cells (i4s [(yc, yt, yf, yk)]).toArray 46)).trans hb9
        have HZ := hid (show Own w9 B a2 (m + 1) cap2 ((M.lsP (M.nd (M.strL l)) (k + 1)).map (M.rndI (M.strL l))) ∧ Row w9 gn n (fun j => .bool (M.nd (M.strL l) j)) ∧ Row w9 gc n (fun j => .int .i64 ((M.cnP (M.nd (M.strL l)) j : Nat) : Int)) ∧ Ro w9 gs n (M.strI l) ∧ One w9 p4 (.slice (some ⟨gc, 0, none⟩) n n) 40 ∧ Below w.heap.size w w9 ∧ B ≤ w9.heap.size from
          ⟨by rw [HE.out.2]; exact hown, HV.out.2.1.far hb9' hBn, HV.out.2.2.1.far hb9' hBc, HV.out.2.2.2.1.far hb9' hBs, HV.out.2.2.2.2.1.far hb9' hB4, HV.out.2.2.2.2.2.1.trans (hb9'.mono (by omega)), Nat.le_trans HV.out.2.2.2.2.2.2 hb9'.size⟩)
        clear hown hb9 hb9' HV
        go_wp2
        go_roundw
        case rel => exact ⟨k + 1, m + 1, a2, cap2, by omega, HE.out.1.symm, rfl, by go_num, HZ.out⟩
        case measure => simp [intOf]; omega
    · obtain rfl : k = n := by omega
      have HF := hid (show Lies wr a (M.roundL l) ∧ m = (M.roundL l).length from by
        have e : M.roundL l = (M.lsP (M.nd (M.strL l)) k).map (M.rndI (M.strL l)) := by
          unfold M.roundL M.rndL
          rw [M.strL_len, HH.out.1]
        refine ⟨by rw [e]; exact HR.out.1.lies, ?_⟩
        rw [HMK.out]
        unfold M.roundL
        rw [M.rndL_len, M.strL_len, HH.out.1])
      go_wp2
      go_ret
      exact ⟨a, cc, by rw [← HF.out.2]; rfl, HF.out.1, HR.out.2.2.2.2.2.1⟩
end Go.Proofs.Ytahaooghebmhnaa.B
