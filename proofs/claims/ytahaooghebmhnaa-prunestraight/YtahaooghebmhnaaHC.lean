/-
  The program's Step, as a walk over the Go text.
-/
import Derived.Test.YtahaooghebmhnaaHB
import Derived.Test.YtahaooghebmhnaaHN
import Derived.Test.YtahaooghebmhnaaH6
import Derived.Test.YtahaooghebmhnaaH4
import Derived.Test.YtahaooghebmhnaaHP
namespace Go.Proofs.Ytahaooghebmhnaa.WM
theorem val_bad {op a b : Int} (h : ok op b = false) : val op a b = 0 := by
  unfold ok at h
  simp only [Bool.or_eq_false_iff, Bool.and_eq_false_iff, beq_eq_false_iff_ne, ne_eq, bne_eq_false_iff_eq] at h
  obtain ⟨⟨⟨⟨⟨⟨⟨⟨⟨h0, h1⟩, h2⟩, h3⟩, h4⟩, h5⟩, h6⟩, h7⟩, h8⟩, h9⟩ := h
  unfold val
  rw [if_neg h0, if_neg h1, if_neg h2]
  by_cases e : op = 48
  · rw [if_pos e]
    rcases h3 with h3 | h3
    · exact absurd e h3
    · rw [if_pos h3]
  · rw [if_neg e, if_neg h4, if_neg h5, if_neg h6, if_neg h7, if_neg h8, if_neg h9]
end Go.Proofs.Ytahaooghebmhnaa.WM
namespace Go.Proofs.Ytahaooghebmhnaa.M
/-- what is wrong at a place, any -/
def locI (l : List I) (pc : Int) : Int := if pc < 0 ∨ (l.length : Int) ≤ pc then 2 else loc l.length pc.toNat (l.getD pc.toNat (0, 0, 0, 0))
theorem locI_out {l : List I} {pc : Int} (h : pc < 0 ∨ (l.length : Int) ≤ pc) : locI l pc = 2 := if_pos h
theorem locI_at {l : List I} {p : Nat} (h : p < l.length) : locI l p = loc l.length p l[p] := by
  unfold locI
  rw [if_neg (by omega)]
  simp only [Int.toNat_natCast]
  rw [List.getD_eq_getElem?_getD, List.getElem?_eq_getElem h]
  rfl
/-- Step's answer -/
def stepA (l : List I) (r : List Int) (s : S) : S × Int := if locI l s.pc ≠ 0 then (s0, locI l s.pc) else if s.en = true then (s0, 12) else (stepI (l.getD s.pc.toNat (0, 0, 0, 0)) r s, 0)
end Go.Proofs.Ytahaooghebmhnaa.M
namespace Go.Proofs.Ytahaooghebmhnaa.B
open Go.ChangeShapes Go.WideShapes Go.ChangeAt Go.RowKit
open Go.Sort hiding Below
set_option linter.unusedVariables false

theorem behind_at (n p : Nat) (x : M.I) (r : List Int) (s : M.S) (hn : n ≤ 65536) (hp : s.pc = p) (hpn : p < n) (ok : M.okI x) (hr : R.okR r) (hs : M.okS s) (hw : M.loc n p x = 0) (w : World) :
    Calls Try.prog 33 #[.agg #[.int .u16 x.1, .int .u8 x.2.1, .int .u8 x.2.2.1, .int .u32 x.2.2.2], .agg (RB.enc r), .agg (encS s)] w fun e w' => e = .returned (.agg (encS (M.stepI x r s))) ∧ Below w.heap.size w w' := by
  obtain ⟨c, t, f, k⟩ := x
  have ok' := ok
  obtain ⟨b0, b1, b2, b3⟩ := ok'
  simp only at b0 b1 b2 b3
  obtain ⟨k, rfl⟩ : ∃ d : Nat, k = d := ⟨k.toNat, by omega⟩
  have hle := M.kind_le c
  have h0 : M.kind c ≠ 0 := by
    intro h
    rw [M.loc0 h] at hw
    cases hw
  have cs : M.kind c = 1 ∨ M.kind c = 2 ∨ M.kind c = 3 ∨ M.kind c = 4 ∨ M.kind c = 5 ∨ M.kind c = 6 ∨ M.kind c = 7 ∨ M.kind c = 8 ∨ M.kind c = 9 ∨ M.kind c = 10 ∨ M.kind c = 11 ∨ M.kind c = 12 ∨ M.kind c = 13 ∨ M.kind c = 14 ∨ M.kind c = 15 ∨ M.kind c = 16 := by omega
  have hp6 : p ≤ 65536 := by omega
  simp only
  rcases cs with h | h | h | h | h | h | h | h | h | h | h | h | h | h | h | h
  · rw [M.loc1 h] at hw
    have hk : (k : Int) < 64 ∧ (k : Int) % 4 = 0 := by
      unfold M.ldE at hw
      split at hw
      · cases hw
      · omega
    exact bh1 c t f k ok r hr s hs p hp hp6 h (k / 4) (by omega) (by omega) w
  · exact bh2 c t f k ok r hr s hs p hp hp6 h w
  · exact bh3 c t f k ok r hr s hs p hp hp6 h w
  · have hk := M.loc_ld hw (Or.inl h)
    exact bh4 c t f k ok r hr s hs p hp hp6 h (by omega) w
  · exact bh5 c t f k ok r hr s hs p hp hp6 h w
  · have hk := M.loc_ld hw (Or.inr h)
    exact bh6 c t f k ok r hr s hs p hp hp6 h (by omega) w
  · exact bh7 c t f k ok r hr s hs p hp hp6 h w
  · have hk := M.loc_st hw (Or.inl h)
    exact bh8 c t f k ok r hr s hs p hp hp6 h (by omega) w
  · have hk := M.loc_st hw (Or.inr h)
    exact bh9 c t f k ok r hr s hs p hp hp6 h (by omega) w
  · cases hq : WM.ok (M.opI (c, t, f, (k : Int))) (M.oth (c, t, f, (k : Int)) s) with
    | true => exact bh10 c t f k ok r hr s hs p hp hp6 h hq w
    | false => exact bh10z c t f k ok r hr s hs p hp hp6 h hq (WM.val_bad hq) w
  · have hk := M.loc_ja hw h
    exact bh11 c t f k ok r hr s hs p hp hp6 h (by omega) w
  · have hk := M.loc_jif hw h
    obtain ⟨v, hv⟩ : ∃ v : Nat, (if WM.ask (M.opI (c, t, f, (k : Int))) s.a (M.oth (c, t, f, (k : Int)) s) = true then t else f) = (v : Int) := by
      split
      · exact ⟨t.toNat, by omega⟩
      · exact ⟨f.toNat, by omega⟩
    have hvn : p + 1 + v ≤ 65536 := by
      split at hv <;> omega
    exact bh12 c t f k ok r hr s hs p hp hp6 h v hv hvn w
  · exact bh13 c t f k ok r hr s hs p hp hp6 h w
  · exact bh14 c t f k ok r hr s hs p hp hp6 h w
  · exact bh15 c t f k ok r hr s hs p hp hp6 h w
  · exact bh16 c t f k ok r hr s hs p hp hp6 h w

theorem St.drew {W : World} {b : Nat} {t : TypeId} {s : M.S} (h : St W b t s) : St W.drew b t s := h.below (Below.refl _ _).drew
theorem recDrew {W : World} {b : Nat} {r : List Int} (h : RB.Rec W b r) : RB.Rec W.drew b r := h.below (Below.refl _ _).drew h.lt
end Go.Proofs.Ytahaooghebmhnaa.B
namespace Go.Proofs.Ytahaooghebmhnaa.M
theorem right_loc {l : List I} (hr : right l) {p : Nat} (hp : p < l.length) : loc l.length p l[p] = 0 := by
  have hw := ((right_iff l).1 hr).2.1 p hp
  rw [wrong_at hp] at hw
  simpa using hw
end Go.Proofs.Ytahaooghebmhnaa.M
namespace Go.Proofs.Ytahaooghebmhnaa.B
open Go.ChangeShapes Go.WideShapes Go.ChangeAt Go.RowKit
open Go.Sort hiding Below
set_option linter.unusedVariables false

/-- what is left to do, as the world has it -/
def mzS (W : World) (b n : Nat) : Nat := match W.cell? ⟨b, 19, none⟩ with
  | some (.bool true) => 0
  | _ => match W.cell? ⟨b, 0, none⟩ with
    | some (.int _ p) => n + 1 - p.toNat
    | _ => 0
theorem mzS_end {W : World} {b n : Nat} {t : TypeId} {s : M.S} (h : St W b t s) (he : s.en = true) : mzS W b n = 0 := by
  obtain ⟨s1, s2, s3, s4, s5⟩ := h.cells
  unfold mzS
  rw [s4, he]
theorem mzS_on {W : World} {b n p : Nat} {t : TypeId} {s : M.S} (h : St W b t s) (he : s.en = false) (hp : s.pc = p) : mzS W b n = n + 1 - p := by
  obtain ⟨s1, s2, s3, s4, s5⟩ := h.cells
  unfold mzS
  rw [s4, he, s1, hp]
  simp
theorem mzS_less {W W' : World} {b n p : Nat} {t : TypeId} {s : M.S} {l : List M.I} {r : List Int} (hln : l.length = n) (hr : M.right l) (ok : ∀ x ∈ l, M.okI x) (hp : s.pc = p) (hpl : p < l.length) (he : s.en = false) (h : St W b t s) (h' : St W' b t (M.stepI l[p] r s)) : mzS W' b n < mzS W b n := by
  rw [mzS_on h he hp]
  rcases M.step_on hr ok r hp hpl he with ⟨h1, h2⟩ | ⟨h1, q, h2, h3, h4⟩
  · rw [mzS_end h' h1]; omega
  · rw [mzS_on h' h1 h4]; omega

set_option maxHeartbeats 3200000 in
set_option maxRecDepth 1000000 in
theorem mrun_bad (a : Option Addr) (n cap : Nat) (l : List M.I) (r : List Int) (hln : l.length = n) (hn : n ≤ 65536) (ok : ∀ i ∈ l, M.okI i) (w : World) (hl : Lies w a l) (hb : M.rightB l = false) :
    Calls Try.prog 18 #[.slice a n cap, .agg (RB.enc r)] w fun e w' => e = .returned (.tuple #[.int .u32 0, .int .i64 1]) ∧ Below w.heap.size w w' := by
  have HC := hid (fun W (h : Lies W a l) => right_any a n cap l hln (by omega) ok W h false hb)
  have HB := hid (al w (.cells (RB.enc r) 36))
  have HL := hid (hl.below HB.out)
  clear hl ok hb
  go_enter Try.func18, Try.ntmps18
  go_wp2_with fail
  refine (HC.out _ HL.out).mono ?_
  rintro e w1 ⟨rfl, hb⟩
  replace HB := stp HB hb
  clear hb HC HL
  go_wp2
  go_ret2
  exact ⟨rfl, HB.out⟩

set_option maxHeartbeats 3200000 in
set_option maxRecDepth 1000000 in
theorem mrun_any (b o n cap : Nat) (l : List M.I) (r : List Int) (hln : l.length = n) (hn : n ≤ 4096) (ok : ∀ i ∈ l, M.okI i) (hk : R.okR r) (w : World) (hl : Ly w b o l) (hr : M.right l) :
    Calls Try.prog 18 #[.slice (some ⟨b, o, none⟩) n cap, .agg (RB.enc r)] w fun e w' => e = .returned (.tuple #[.int .u32 (M.run l r).1.an, .int .i64 0]) ∧ Below w.heap.size w w' := by
  have hX := RB.lcf_eq
  have hz := s0_lit
  have HC := hid (fun W (h : Lies W (some ⟨b, o, none⟩) l) => right_any (some ⟨b, o, none⟩) n cap l hln (by omega) ok W h true (M.right_of.2 hr))
  have HB := hid (al w (.cells (RB.enc r) 36))
  have HL := hid ((hl.below HB.out).lies)
  have h0 := ((M.right_iff l).1 hr).1.1
  have hRc := RB.Rec.new w r hk.1
  have HH := hid (And.intro hln (And.intro ok (And.intro hl (And.intro hr hk))))
  have hbl : b < w.heap.size := hl.1
  clear hl ok hr hk hln
  go_enter Try.func18, Try.ntmps18
  go_wp2_with fail
  refine (HC.out _ HL.out).mono ?_
  rintro e w1 ⟨rfl, hb⟩
  replace HB := stp HB hb
  have hR1 := hRc.below hb hRc.lt
  have hsz1 : w.heap.size < w1.heap.size := hR1.lt
  have HI := hid (show St (w1.alloc (.cells (encS M.s0) 53)) w1.heap.size 53 M.s0 ∧ RB.Rec (w1.alloc (.cells (encS M.s0) 53)) w.heap.size r ∧ Below w.heap.size w (w1.alloc (.cells (encS M.s0) 53)) ∧ M.Left l r [] l.length M.s0 from ⟨St.new w1 _ _ rfl, hR1.alloc _, (stp HB (al w1 _)).out, M.Left.start r h0⟩)
  clear hb HC HL hRc hR1 HB h0
  go_wp2
  go_loopw [] (fun wr => ∃ (acc : List Nat) (m : Nat) (s : M.S), Hid (St wr w1.heap.size 53 s ∧ RB.Rec wr w.heap.size r ∧ Below w.heap.size w wr ∧ M.Left l r acc m s)) (fun wr => mzS wr w1.heap.size n)
  case atStart => exact ⟨[], l.length, M.s0, HI.out.1, HI.out.2.1, HI.out.2.2.1, HI.out.2.2.2⟩
  case round =>
    clear HI
    obtain ⟨acc, m, s, HR⟩ := hrel
    obtain ⟨s1, s2, s3, s4, s5⟩ := HR.out.1.cells
    rcases hen : s.en with _ | _
    · rw [hen] at s4
      obtain ⟨p, hp, hpl, hpm, _⟩ : ∃ p : Nat, s.pc = p ∧ p < l.length ∧ l.length ≤ p + m ∧ s.en = false := by
        rcases HR.out.2.2.2.here with h | h
        · rw [hen] at h; cases h
        · exact h
      obtain ⟨m, rfl⟩ : ∃ q, m = q + 1 := ⟨m - 1, by omega⟩
      rw [hp] at s1
      have hpn : p < n := by rw [← HH.out.1]; exact hpl
      have i1 : (p : Int) < (n : Int) := by omega
      obtain ⟨x, hx⟩ : ∃ x, l[p] = x := ⟨_, rfl⟩
      have hxo : M.okI x := by rw [← hx]; exact HH.out.2.1 _ (List.getElem_mem hpl)
      have hloc : M.loc n p x = 0 := by
        have := M.right_loc HH.out.2.2.2.1 hpl
        rw [HH.out.1, hx] at this
        exact this
      have HL := hid (show M.Left l r (acc ++ [p]) m (M.stepI x r s) by rw [← hx]; exact HR.out.2.2.2.step HH.out.2.2.2.1 HH.out.2.1 HH.out.2.2.2.2 hp hpl hen hpm)
      have HSt := hid (fun w => behind_at n p x r s (by omega) hp hpn hxo HH.out.2.2.2.2 HR.out.2.2.2.ok hloc w)
      have HM := hid (show ∀ W', St W' w1.heap.size 53 (M.stepI x r s) → mzS W' w1.heap.size n < mzS wr w1.heap.size n by
        intro W' h
        rw [← hx] at h
        exact mzS_less HH.out.1 HH.out.2.2.2.1 HH.out.2.1 hp hpl hen HR.out.1 h)
      have hla : LiesAt wr b o p x := by rw [← hx]; exact (HH.out.2.2.1.far HR.out.2.2.1 hbl).2 p hpl
      obtain ⟨u, hu⟩ : ∃ u, M.stepI x r s = u := ⟨_, rfl⟩
      rw [hu] at HL HSt HM
      clear hu hx hpl hxo hloc
      obtain ⟨c, t, f, k⟩ := x
      simp only at HSt
      obtain ⟨q0, q1, q2, q3⟩ := hla
      simp only at q0 q1 q2 q3
      have hSd := HR.out.1.drew
      have hRd := recDrew HR.out.2.1
      have hl21 := hSd.load
      have hl16 := hRd.load
      have hsz21 := encS_size hSd.2
      have hsz16 := RB.enc_size hRd.2
      have hszu := encS_size HL.out.ok.m.1
      go_wp2
      refine wp_region_still_tail 7 (by kernel_rfl) (by kernel_rfl) ?_
      change wpStill _ _ (World.drew wr) (fun a' => wpList _ _ _ _ a' (World.drew wr)) _ _
      simp only [List.take_succ_cons, List.take_zero, List.drop_succ_cons, List.drop_zero]
      repeat still_step
      refine wpStill_nil ?_
      go_wp2_with fail
      refine (HSt.out _).mono ?_
      rintro e w3 ⟨rfl, hb⟩
      obtain ⟨W4, hst, hS4, hoth4, hsize4, hB4⟩ := (hSd.below hb).storeK (u := u) HL.out.ok.m.1
      have HF := hid (show St W4 w1.heap.size 53 u ∧ RB.Rec W4 w.heap.size r ∧ Below w.heap.size w W4 from
        ⟨hS4, ⟨by rw [hoth4 _ (by omega)]; exact (hRd.below hb hRd.lt).1, hRd.2⟩, hB4 w.heap.size w (by omega) (stp (hid HR.out.2.2.1.drew) hb).out⟩)
      have HM2 := hid (HM.out _ hS4)
      clear hb hS4 hoth4 hsize4 hB4 hl21 hl16 hSd hRd q0 q1 q2 q3 s1 s2 s3 s4 s5 HSt HR HM
      go_wp2
      go_roundw
      case rel => exact ⟨acc ++ [p], m, u, HF.out.1, HF.out.2.1, HF.out.2.2, HL.out⟩
      case measure => exact HM2.out
    · rw [hen] at s4
      have HD := hid (HR.out.2.2.2.done hen)
      have HB := hid HR.out.2.2.1
      clear HR
      go_wp2
      go_ret2
      exact ⟨by rw [HD.out]; rfl, HB.out⟩
end Go.Proofs.Ytahaooghebmhnaa.B
namespace Go.Proofs.Ytahaooghebmhnaa.B
open Go.ChangeShapes Go.WideShapes Go.ChangeAt Go.RowKit
open Go.Sort hiding Below
set_option linter.unusedVariables false

set_option maxHeartbeats 3200000 in
set_option maxRecDepth 1000000 in
theorem mtrace_bad (a : Option Addr) (n cap : Nat) (l : List M.I) (r : List Int) (hln : l.length = n) (hn : n ≤ 65536) (ok : ∀ i ∈ l, M.okI i) (w : World) (hl : Lies w a l) (hb : M.rightB l = false) :
    Calls Try.prog 20 #[.slice a n cap, .agg (RB.enc r)] w fun e w' => e = .returned (.tuple #[.slice none 0 0, .int .i64 1]) ∧ Below w.heap.size w w' := by
  have HC := hid (fun W (h : Lies W a l) => right_any a n cap l hln (by omega) ok W h false hb)
  have HB := hid (al w (.cells (RB.enc r) 36))
  have HL := hid (hl.below HB.out)
  clear hl ok hb
  go_enter Try.func20, Try.ntmps20
  go_wp2_with fail
  refine (HC.out _ HL.out).mono ?_
  rintro e w1 ⟨rfl, hb⟩
  replace HB := stp HB hb
  clear hb HC HL
  go_wp2
  go_ret2
  exact ⟨rfl, HB.out⟩

set_option maxHeartbeats 3200000 in
set_option maxRecDepth 1000000 in
theorem mtrace_any (b o n cap : Nat) (l : List M.I) (r : List Int) (hln : l.length = n) (hn : n ≤ 4096) (ok : ∀ i ∈ l, M.okI i) (hk : R.okR r) (w : World) (hl : Ly w b o l) (hr : M.right l) :
    Calls Try.prog 20 #[.slice (some ⟨b, o, none⟩) n cap, .agg (RB.enc r)] w fun e w' => ∃ (g c : Nat), e = .returned (.tuple #[.slice (some ⟨g, 0, none⟩) (M.run l r).2.length c, .int .i64 0]) ∧ Nx w' (some ⟨g, 0, none⟩) (M.run l r).2 ∧ Below w.heap.size w w' := by
  have hX := RB.lcf_eq
  have hz := s0_lit
  have HC := hid (fun W (h : Lies W (some ⟨b, o, none⟩) l) => right_any (some ⟨b, o, none⟩) n cap l hln (by omega) ok W h true (M.right_of.2 hr))
  have HB := hid (al w (.cells (RB.enc r) 36))
  have HL := hid ((hl.below HB.out).lies)
  have h0 := ((M.right_iff l).1 hr).1.1
  have hRc := RB.Rec.new w r hk.1
  have HH := hid (And.intro hln (And.intro ok (And.intro hl (And.intro hr hk))))
  have hbl : b < w.heap.size := hl.1
  obtain ⟨i0, hi, hz0, hz1, hz2⟩ := info_parts WB.info3
  clear hl ok hr hk hln
  go_enter Try.func20, Try.ntmps20
  go_wp2_with fail
  refine (HC.out _ HL.out).mono ?_
  rintro e w1 ⟨rfl, hb⟩
  replace HB := stp HB hb
  have hR1 := hRc.below hb hRc.lt
  have hsz1 : w.heap.size < w1.heap.size := hR1.lt
  obtain ⟨W1, hW1⟩ : ∃ W1, w1.alloc (.cells (encS M.s0) 53) = W1 := ⟨_, rfl⟩
  have hbig : w1.heap.size < W1.heap.size := by rw [← hW1]; simp
  have HI := hid (show St W1 w1.heap.size 53 M.s0 ∧ RB.Rec W1 w.heap.size r ∧ Below w.heap.size w W1 ∧ M.Left l r [] l.length M.s0 ∧ W1.ownsRow W1.heap.size 3 1 (.slice none 0 0) 0 [] from ⟨by rw [← hW1]; exact St.new w1 _ _ rfl, by rw [← hW1]; exact hR1.alloc _, by rw [← hW1]; exact (stp HB (al w1 _)).out, M.Left.start r h0, World.ownsRow_nil _ _ _ _⟩)
  clear hb HC HL hRc hR1 HB h0
  go_wp2
  clear hW1
  go_loopw [6] (fun v wr => ∃ (acc : List Nat) (m : Nat) (s : M.S), Hid (St wr w1.heap.size 53 s ∧ RB.Rec wr w.heap.size r ∧ Below w.heap.size w wr ∧ M.Left l r acc m s ∧ wr.ownsRow W1.heap.size 3 1 v acc.length (i8s acc) ∧ W1.heap.size ≤ wr.heap.size)) (fun v _ => n - qlen v)
  case atStart => exact ⟨[], l.length, M.s0, HI.out.1, HI.out.2.1, HI.out.2.2.1, HI.out.2.2.2.1, HI.out.2.2.2.2, Nat.le_refl _⟩
  case round =>
    clear HI
    obtain ⟨acc, m, s, HR⟩ := hrel
    obtain ⟨s1, s2, s3, s4, s5⟩ := HR.out.1.cells
    rcases hen : s.en with _ | _
    · rw [hen] at s4
      obtain ⟨p, hp, hpl, hpm, _⟩ : ∃ p : Nat, s.pc = p ∧ p < l.length ∧ l.length ≤ p + m ∧ s.en = false := by
        rcases HR.out.2.2.2.1.here with h | h
        · rw [hen] at h; cases h
        · exact h
      obtain ⟨m, rfl⟩ : ∃ q, m = q + 1 := ⟨m - 1, by omega⟩
      rw [hp] at s1
      have hpn : p < n := by rw [← HH.out.1]; exact hpl
      have i1 : (p : Int) < (n : Int) := by omega
      have hacn : acc.length < n := by have := HR.out.2.2.2.1.fuel; rw [HH.out.1] at this; omega
      obtain ⟨x, hx⟩ : ∃ x, l[p] = x := ⟨_, rfl⟩
      have hxo : M.okI x := by rw [← hx]; exact HH.out.2.1 _ (List.getElem_mem hpl)
      have hloc : M.loc n p x = 0 := by
        have := M.right_loc HH.out.2.2.2.1 hpl
        rw [HH.out.1, hx] at this
        exact this
      have HL := hid (show M.Left l r (acc ++ [p]) m (M.stepI x r s) by rw [← hx]; exact HR.out.2.2.2.1.step HH.out.2.2.2.1 HH.out.2.1 HH.out.2.2.2.2 hp hpl hen hpm)
      have HSt := hid (fun w => behind_at n p x r s (by omega) hp hpn hxo HH.out.2.2.2.2 HR.out.2.2.2.1.ok hloc w)
      have HLA := hid (show LiesAt w b o p x by rw [← hx]; exact HH.out.2.2.1.2 p hpl)
      obtain ⟨u, hu⟩ : ∃ u, M.stepI x r s = u := ⟨_, rfl⟩
      rw [hu] at HL HSt
      clear hu hx hpl hxo hloc
      obtain ⟨c, t, f, k⟩ := x
      simp only at HSt
      go_wp2_with (at_builtin; refine wpList_append_lies _ rfl _ _ 40 rfl W1.heap.size 3 i0 (.int .i64 0) 1 8 Try.underlying40 hi hz0 hz1 hz2 rfl (by decide) _ acc.length _ rfl (HR.out.2.2.2.2.1.alloc _) ⟨wr.heap.size, 0, none⟩ 1 1 [.int .i64 (p : Int)] rfl rfl ?c1 ?c2 (by decide) ?c3 ?c4 ?c5 (wr.heap.size + 1) ?c6 ?_)
      case c1 => exact World.news_of_block (fr := (0, 0)) (t := 3) (by have := heap_alloc_new wr (Obj.cells #[.int .i64 (p : Int)] 3); simpa using this)
      case c2 => intro u hu; simp at hu; rw [hu]; rfl
      case c3 => unfold maxLen; omega
      case c4 => omega
      case c5 => have := HR.out.2.2.2.2.2; simp; omega
      case c6 => simp
      intro g cap2 w2 hown hgrow _ _
      have hb2 : Below W1.heap.size wr w2 := ((Below.refl _ wr).alloc HR.out.2.2.2.2.2 _).grown hgrow (by have := HR.out.2.2.2.2.2; simp; omega) (fun k hk => (HR.out.2.2.2.2.1.lt k hk).1)
      have hb2w : Below w.heap.size w w2 := HR.out.2.2.1.trans (hb2.mono (by omega))
      have hSt2 := HR.out.1.far hb2 hbig
      have hRc2 := HR.out.2.1.below hb2 (by omega)
      rw [← i8s_snoc] at hown
      have HO := hid (And.intro hown (Nat.le_trans HR.out.2.2.2.2.2 hb2.size))
      have HM := hid (show qlen (.slice (some ⟨g, 0, none⟩) (acc.length + 1) cap2) = acc.length + 1 ∧ qlen u6 = acc.length from ⟨rfl, own_qlen HR.out.2.2.2.2.1⟩)
      have hSd := hSt2.drew
      have hRd := recDrew hRc2
      have HBd := hid hb2w.drew
      obtain ⟨q0, q1, q2, q3⟩ := HLA.out
      simp only at q0 q1 q2 q3
      replace q0 := (hb2w.cell (p := ⟨b, o + p * 4, none⟩) hbl).trans q0
      replace q1 := (hb2w.cell (p := ⟨b, o + p * 4 + 1, none⟩) hbl).trans q1
      replace q2 := (hb2w.cell (p := ⟨b, o + p * 4 + 2, none⟩) hbl).trans q2
      replace q3 := (hb2w.cell (p := ⟨b, o + p * 4 + 3, none⟩) hbl).trans q3
      have hl21 := hSd.load
      have hl16 := hRd.load
      have hsz21 := encS_size hSd.2
      have hsz16 := RB.enc_size hRd.2
      have hszu := encS_size HL.out.ok.m.1
      clear hown hgrow hb2 hb2w s1 s2 s3 s4 s5 HR
      obtain ⟨s1, s2, s3, s4, s5⟩ := hSt2.cells
      rw [hp] at s1
      clear hSt2 hRc2
      go_wp2
      refine wp_region_still_tail 7 (by kernel_rfl) (by kernel_rfl) ?_
      change wpStill _ _ (World.drew w2) (fun a' => wpList _ _ _ _ a' (World.drew w2)) _ _
      simp only [List.take_succ_cons, List.take_zero, List.drop_succ_cons, List.drop_zero]
      repeat still_step
      refine wpStill_nil ?_
      go_wp2_with fail
      refine (HSt.out _).mono ?_
      rintro e w3 ⟨rfl, hb⟩
      obtain ⟨W4, hst, hS4, hoth4, hsize4, hB4⟩ := (hSd.below hb).storeK (u := u) HL.out.ok.m.1
      have HF := hid (show St W4 w1.heap.size 53 u ∧ RB.Rec W4 w.heap.size r ∧ Below w.heap.size w W4 ∧ W4.ownsRow W1.heap.size 3 1 (.slice (some ⟨g, 0, none⟩) (acc.length + 1) cap2) (acc ++ [p]).length (i8s (acc ++ [p])) ∧ W1.heap.size ≤ W4.heap.size from
        ⟨hS4, ⟨by rw [hoth4 _ (by omega)]; exact (hRd.below hb hRd.lt).1, hRd.2⟩, hB4 w.heap.size w (by omega) (stp HBd hb).out,
          by rw [List.length_append]; exact own_other (own_below HO.out.1.drew hb) hbig hoth4, by rw [hsize4]; exact Nat.le_trans HO.out.2 hb.size⟩)
      clear hb hS4 hoth4 hsize4 hB4 hl21 hl16 hSd hRd q0 q1 q2 q3 s1 s2 s3 s4 s5 HSt
      go_wp2
      go_roundw
      case rel => exact ⟨acc ++ [p], m, u, HF.out.1, HF.out.2.1, HF.out.2.2.1, HL.out, HF.out.2.2.2.1, HF.out.2.2.2.2⟩
      case measure => rw [HM.out.1, HM.out.2]; omega
    · rw [hen] at s4
      have hd := HR.out.2.2.2.1.done hen
      have hne := (M.run_ends HH.out.2.2.2.1 HH.out.2.1 r).2.1
      rw [hd] at hne
      simp only at hne
      have HD := hid hd
      have hpos : 0 < acc.length := by obtain ⟨tl, e⟩ := hne; rw [e]; simp
      obtain ⟨g, c, hv⟩ := own_form HR.out.2.2.2.2.1 hpos
      rw [hv] at HR ⊢
      have HX := hid (show Nx wr (some ⟨g, 0, none⟩) acc ∧ Below w.heap.size w wr from ⟨.inr ⟨g, rfl, (HR.out.2.2.2.2.1.lt g rfl).2, fun j hj => by rw [HR.out.2.2.2.2.1.cellAt j (by omega)]; exact i8s_get acc j hj⟩, HR.out.2.2.1⟩)
      clear HR hd hne
      go_wp2
      go_ret2
      exact ⟨g, c, by rw [HD.out]; rfl, by rw [HD.out]; exact HX.out.1, HX.out.2⟩

end Go.Proofs.Ytahaooghebmhnaa.B
namespace Go.Proofs.Ytahaooghebmhnaa.B
open Go.ChangeShapes Go.WideShapes Go.ChangeAt Go.RowKit
open Go.Sort hiding Below
set_option linter.unusedVariables false
theorem wpList_build {P : Program} {ops : Array Oper} {Q : Exit → Act → World → Prop} {rest : List Oper} {o : Oper} {a : Act} {w : World} (hw : Region.wanted o (yielded ops a.tmps) = true) (t : TypeId) (fs : Array (Nat × Operand)) (ho : o.op = .build t fs)
    (args : Array (Nat × Value)) (hf : (fs.map fun (i, x) => (i, a.eval x)) = args) (v : Value) (hv : (Instr.build t args).run P w = .ok v w) (h : wpList P ops Q rest (a.put o.dst v) w) : wpList P ops Q (o :: rest) a w :=
  wpList_step fun K hK => by
    rw [if_pos hw]
    subst hf
    unfold Oper.wp
    simp only [execOp, ho]
    simp [hv, Result.andThen, Oper.upon]
    exact hK _ _ h
theorem lies_lit (w : World) (l : List M.I) (n : Nat) (hn : l.length = n) (hm : n ≤ maxLen) : Lies (w.alloc (.cells (i4s l).toArray 46)) (some ⟨w.heap.size, 0, none⟩) l :=
  lies_of_own (n := n) (cap := n) (World.ownsRow_lit (base := w.heap.size) (e := 46) (size := 4) w (i4s l).toArray n (Nat.le_refl _) hm (by simp [i4s_len, hn])) hn
theorem ly_lit (w : World) (l : List M.I) (n : Nat) (hn : l.length = n) (hm : n ≤ maxLen) (h0 : 0 < n) : Ly (w.alloc (.cells (i4s l).toArray 46)) w.heap.size 0 l := by
  obtain ⟨b, o, e, h⟩ := (lies_lit w l n hn hm).ly (by omega)
  injection e with e
  injection e with e1 e2
  subst e1 e2
  exact h
/-- the first words of a program's row -/
theorem Ly.take {w : World} {b o : Nat} {l : List M.I} (h : Ly w b o l) (k : Nat) : Ly w b o (l.take k) := by
  refine ⟨h.1, fun i hi => ?_⟩
  have hi' : i < l.length := by rw [List.length_take] at hi; omega
  have := h.2 i hi'
  rw [List.getElem_take]
  exact this
def rc (n : Int) : List Int := [n, 0, 0, 0, 0, 0, 0, 0, 0, 0, 0, 0, 0, 0, 0, 0]
theorem ok_rc {n : Int} (h : 0 ≤ n ∧ n < 4294967296) : R.okR (rc n) := ⟨rfl, fun i => by
  by_cases h' : i < 16
  · have : i = 0 ∨ i = 1 ∨ i = 2 ∨ i = 3 ∨ i = 4 ∨ i = 5 ∨ i = 6 ∨ i = 7 ∨ i = 8 ∨ i = 9 ∨ i = 10 ∨ i = 11 ∨ i = 12 ∨ i = 13 ∨ i = 14 ∨ i = 15 := by omega
    rcases this with rfl | rfl | rfl | rfl | rfl | rfl | rfl | rfl | rfl | rfl | rfl | rfl | rfl | rfl | rfl | rfl
    · exact h
    all_goals exact (show (0 : Int) ≤ 0 ∧ (0 : Int) < 4294967296 by decide)
  · rw [List.getD_eq_getElem?_getD, List.getElem?_eq_none (by show 16 ≤ i; omega)]; decide⟩
theorem bR (n : Int) (W : World) : (Instr.build 36 #[(0, .int .u32 n)]).run Try.prog W = .ok (.agg (RB.enc (rc n))) W := by kernel_rfl
theorem bR0 (W : World) : (Instr.build 36 #[]).run Try.prog W = .ok (.agg (RB.enc R.zero)) W := by kernel_rfl
theorem bS0 (W : World) : (Instr.build 53 #[]).run Try.prog W = .ok (.agg (encS M.s0)) W := by kernel_rfl
theorem bSx (n : Int) (W : World) : (Instr.build 53 #[(2, .int .u32 n)]).run Try.prog W = .ok (.agg (encS { M.s0 with x := n })) W := by kernel_rfl
theorem bSp (n : Int) (W : World) : (Instr.build 53 #[(0, .int .i64 n)]).run Try.prog W = .ok (.agg (encS { M.s0 with pc := n })) W := by kernel_rfl
theorem bSe (W : World) : (Instr.build 53 #[(4, .bool true)]).run Try.prog W = .ok (.agg (encS { M.s0 with en := true })) W := by kernel_rfl
theorem bS3 (p a x : Int) (W : World) : (Instr.build 53 #[(0, .int .i64 p), (1, .int .u32 a), (2, .int .u32 x)]).run Try.prog W = .ok (.agg (encS { M.s0 with pc := p, a := a, x := x })) W := by kernel_rfl
end Go.Proofs.Ytahaooghebmhnaa.B
