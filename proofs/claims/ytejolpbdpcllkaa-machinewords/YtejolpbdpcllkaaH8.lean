/-
  The reference's Step, of any instruction that nothing is wrong with alone.
-/
import Derived.Test.YtejolpbdpcllkaaH7
import Derived.Test.YtejolpbdpcllkaaH6
import Derived.Test.YtejolpbdpcllkaaH4
namespace Go.Proofs.Ytejolpbdpcllkaa.B
open Go.ChangeShapes Go.WideShapes Go.ChangeAt Go.RowKit
set_option linter.unusedVariables false

theorem rstep_at (b o n cap p : Nat) (x : M.I) (r : List Int) (s : M.S) (hn : n ≤ 65536) (hp : s.pc = p) (hpn : p < n) (ok : M.okI x) (hr : R.okR r) (hs : M.okS s) (w : World) (hl : LiesAt w b o p x) (hw : M.loc n p x = 0) :
    Calls Try.prog 13 #[.slice (some ⟨b, o, none⟩) n cap, .agg (RB.enc r), .agg (encS s)] w fun e w' => e = .returned (.agg (encS (M.stepI x r s))) ∧ Below w.heap.size w w' := by
  obtain ⟨c, t, f, k⟩ := x
  have ok' := ok
  obtain ⟨b0, b1, b2, b3⟩ := ok'
  simp only at b0 b1 b2 b3
  obtain ⟨k, rfl⟩ : ∃ d : Nat, k = d := ⟨k.toNat, by omega⟩
  obtain ⟨t, rfl⟩ : ∃ d : Nat, t = d := ⟨t.toNat, by omega⟩
  obtain ⟨f, rfl⟩ : ∃ d : Nat, f = d := ⟨f.toNat, by omega⟩
  have hle := M.kind_le c
  have h0 : M.kind c ≠ 0 := by
    intro h
    rw [M.loc0 h] at hw
    cases hw
  have cs : M.kind c = 1 ∨ M.kind c = 2 ∨ M.kind c = 3 ∨ M.kind c = 4 ∨ M.kind c = 5 ∨ M.kind c = 6 ∨ M.kind c = 7 ∨ M.kind c = 8 ∨ M.kind c = 9 ∨ M.kind c = 10 ∨ M.kind c = 11 ∨ M.kind c = 12 ∨ M.kind c = 13 ∨ M.kind c = 14 ∨ M.kind c = 15 ∨ M.kind c = 16 := by omega
  rcases cs with h | h | h | h | h | h | h | h | h | h | h | h | h | h | h | h
  · rw [M.loc1 h] at hw
    have hk : (k : Int) < 64 ∧ (k : Int) % 4 = 0 := by
      unfold M.ldE at hw
      split at hw
      · cases hw
      · omega
    exact rs1 b o n cap p c t f k r s hn hp hpn ok hr hs w hl h (k / 4) (by omega) (by omega)
  · exact rs2 b o n cap p c t f k r s hn hp hpn ok hr hs w hl h
  · exact rs3 b o n cap p c t f k r s hn hp hpn ok hr hs w hl h
  · have hk := M.loc_ld hw (Or.inl h)
    exact rs4 b o n cap p c t f k r s hn hp hpn ok hr hs w hl h (by omega)
  · exact rs5 b o n cap p c t f k r s hn hp hpn ok hr hs w hl h
  · have hk := M.loc_ld hw (Or.inr h)
    exact rs6 b o n cap p c t f k r s hn hp hpn ok hr hs w hl h (by omega)
  · exact rs7 b o n cap p c t f k r s hn hp hpn ok hr hs w hl h
  · have hk := M.loc_st hw (Or.inl h)
    exact rs8 b o n cap p c t f k r s hn hp hpn ok hr hs w hl h (by omega)
  · have hk := M.loc_st hw (Or.inr h)
    exact rs9 b o n cap p c t f k r s hn hp hpn ok hr hs w hl h (by omega)
  · by_cases hb : c / 8 % 2 = 1
    · cases hok : WM.ok (c / 16 % 16 * 16) s.x with
      | true => exact rs10x b o n cap p c t f k r s hn hp hpn ok hr hs w hl h hb hok
      | false => exact rs10xz b o n cap p c t f k r s hn hp hpn ok hr hs w hl h hb hok
    · cases hok : WM.ok (c / 16 % 16 * 16) (k : Int) with
      | true => exact rs10 b o n cap p c t f k r s hn hp hpn ok hr hs w hl h hb hok
      | false => exact rs10z b o n cap p c t f k r s hn hp hpn ok hr hs w hl h hb hok
  · have hk := M.loc_ja hw h
    exact rs11 b o n cap p c t f k r s hn hp hpn ok hr hs w hl h (by omega)
  · by_cases hb : c / 8 % 2 = 1
    · cases hok : WM.ask (c / 16 % 16 * 16) s.a s.x with
      | true => exact rs12xy b o n cap p c t f k r s hn hp hpn ok hr hs w hl h hb hok
      | false => exact rs12xn b o n cap p c t f k r s hn hp hpn ok hr hs w hl h hb hok
    · cases hok : WM.ask (c / 16 % 16 * 16) s.a (k : Int) with
      | true => exact rs12y b o n cap p c t f k r s hn hp hpn ok hr hs w hl h hb hok
      | false => exact rs12n b o n cap p c t f k r s hn hp hpn ok hr hs w hl h hb hok
  · exact rs13 b o n cap p c t f k r s hn hp hpn ok hr hs w hl h
  · exact rs14 b o n cap p c t f k r s hn hp hpn ok hr hs w hl h
  · exact rs15 b o n cap p c t f k r s hn hp hpn ok hr hs w hl h
  · exact rs16 b o n cap p c t f k r s hn hp hpn ok hr hs w hl h
theorem rstep_ly (b o n cap p : Nat) (l : List M.I) (r : List Int) (s : M.S) (hln : l.length = n) (hn : n ≤ 65536) (hp : s.pc = p) (hpl : p < l.length) (ok : ∀ x ∈ l, M.okI x) (hr : R.okR r) (hs : M.okS s) (w : World) (hl : Ly w b o l) (hw : M.wrong l p = false) :
    Calls Try.prog 13 #[.slice (some ⟨b, o, none⟩) n cap, .agg (RB.enc r), .agg (encS s)] w fun e w' => e = .returned (.agg (encS (M.stepI l[p] r s))) ∧ Below w.heap.size w w' := by
  rw [M.wrong_at hpl, hln] at hw
  exact rstep_at b o n cap p l[p] r s hn hp (by omega) (ok _ (List.getElem_mem hpl)) hr hs w (hl.2 p hpl) (by simpa using hw)
end Go.Proofs.Ytejolpbdpcllkaa.B
namespace Go.Proofs.Ytejolpbdpcllkaa.B
open Go.ChangeShapes Go.WideShapes Go.ChangeAt Go.RowKit
open Go.Sort hiding Below
set_option linter.unusedVariables false

set_option maxHeartbeats 1600000 in
set_option maxRecDepth 100000 in
theorem rright_any (a : Option Addr) (n cap : Nat) (l : List M.I) (hln : l.length = n) (hn : n ≤ 4096) (ok : ∀ i ∈ l, M.okI i) (w : World) (hl : Lies w a l) (q : Bool) (hq : M.rightB l = q) :
    Calls Try.prog 17 #[.slice a n cap] w fun e w' => e = .returned (.bool q) ∧ Below w.heap.size w w' := by
  obtain ⟨⟨p, e0⟩, hp⟩ : ∃ x, M.check l = x := ⟨_, rfl⟩
  have hC := rcheck_any a n cap l hln hn ok w hl p e0 hp
  have HR := hid (show (e0 == 0) = q by unfold M.rightB at hq; rw [hp] at hq; exact hq)
  clear hq hp hl ok
  go_enter Try.func17, Try.ntmps17
  go_wp2_with fail
  refine hC.mono ?_
  clear hC
  rintro e w1 ⟨rfl, hb⟩
  have HB := hid hb
  clear hb
  go_wp2
  go_ret
  exact ⟨by rw [← HR.out]; rfl, HB.out⟩

set_option maxHeartbeats 3200000 in
set_option maxRecDepth 1000000 in
theorem rrun_any (b o n cap : Nat) (l : List M.I) (r : List Int) (hln : l.length = n) (hn : n ≤ 4096) (ok : ∀ i ∈ l, M.okI i) (hk : R.okR r) (w : World) (hl : Ly w b o l) (hr : M.right l) :
    Calls Try.prog 18 #[.slice (some ⟨b, o, none⟩) n cap, .agg (RB.enc r)] w fun e w' => ∃ (g c : Nat), e = .returned (.tuple #[.int .u32 (M.run l r).1.an, .slice (some ⟨g, 0, none⟩) (M.run l r).2.length c]) ∧ Nx w' (some ⟨g, 0, none⟩) (M.run l r).2 ∧ Below w.heap.size w w' := by
  have hX := RB.lcf_eq
  have hz := s0_lit
  obtain ⟨W, hW⟩ : ∃ W, (w.alloc (.cells (RB.enc r) 25)).alloc (.cells (encS M.s0) 33) = W := ⟨_, rfl⟩
  have hB0 : Below w.heap.size w W := by rw [← hW]; exact ((Below.refl _ w).alloc (Nat.le_refl _) _).alloc (by simp) _
  have hS : St W (w.heap.size + 1) 33 M.s0 := by
    rw [← hW]
    have := St.new (w.alloc (.cells (RB.enc r) 25)) 33 M.s0 rfl
    simpa using this
  have hRc : RB.Rec W w.heap.size r := by rw [← hW]; exact (RB.Rec.new w r hk.1).alloc _
  obtain ⟨W1, hst, hS1, hoth1, hsize1, hB1⟩ := hS.store (u := M.s0) rfl
  have hRc1 : RB.Rec W1 w.heap.size r := ⟨by rw [hoth1 _ (by omega)]; exact hRc.1, hRc.2⟩
  have HB := hid (hB1 w.heap.size w (by omega) hB0)
  have hsz2 := encS_size (s := M.s0) rfl
  have hbig : w.heap.size + 1 < W1.heap.size := hS1.lt
  have h0 := ((M.right_iff l).1 hr).1.1
  have HI := hid (show St W1 (w.heap.size + 1) 33 M.s0 ∧ RB.Rec W1 w.heap.size r ∧ Below w.heap.size w W1 ∧ M.Left l r [] l.length M.s0 ∧ W1.ownsRow W1.heap.size 3 1 (.slice none 0 0) 0 [] from ⟨hS1, hRc1, HB.out, M.Left.start r h0, World.ownsRow_nil _ _ _ _⟩)
  have HH := hid (And.intro hln (And.intro ok (And.intro hl (And.intro hr hk))))
  obtain ⟨i0, hi, hz0, hz1, hz2⟩ := info_parts WB.info3
  clear hB1 hS1 hRc1 hRc hB0 hS hln ok hl hr hk hoth1 hsize1 HB h0
  go_enter Try.func18, Try.ntmps18
  go_wp2
  clear hst hW hsz2 hz
  go_loopw [7] (fun v wr => ∃ (acc : List Nat) (m : Nat) (s : M.S), Hid (St wr (w.heap.size + 1) 33 s ∧ RB.Rec wr w.heap.size r ∧ Below w.heap.size w wr ∧ M.Left l r acc m s ∧ wr.ownsRow W1.heap.size 3 1 v acc.length (i8s acc) ∧ W1.heap.size ≤ wr.heap.size)) (fun v _ => n - qlen v)
  case atStart => exact ⟨[], l.length, M.s0, HI.out.1, HI.out.2.1, HI.out.2.2.1, HI.out.2.2.2.1, HI.out.2.2.2.2, Nat.le_refl _⟩
  case round =>
    clear HI
    obtain ⟨acc, m, s, HR⟩ := hrel
    obtain ⟨s1, s2, s3, s4, s5⟩ := HR.out.1.cells
    rcases hen : s.en with _ | _
    · rw [hen] at s4
      obtain ⟨p, hp, hpl, hpm, _⟩ : ∃ p : Nat, s.pc = p ∧ p < l.length ∧ l.length ≤ p + m ∧ s.en = false := by
        rcases HR.out.2.2.2.1.here with h | h
        · rw [hen] at h; cases h
        · exact h
      obtain ⟨m, rfl⟩ : ∃ q, m = q + 1 := ⟨m - 1, by omega⟩
      rw [hp] at s1
      have hpn : p < n := by rw [← HH.out.1]; exact hpl
      have HL := hid (HR.out.2.2.2.1.step HH.out.2.2.2.1 HH.out.2.1 HH.out.2.2.2.2 hp hpl hen hpm)
      have HSt := hid (fun w hl => rstep_ly b o n cap p l r s HH.out.1 (by omega) hp hpl HH.out.2.1 HH.out.2.2.2.2 HR.out.2.2.2.1.ok w hl (((M.right_iff l).1 HH.out.2.2.2.1).2.1 p hpl))
      obtain ⟨u, hu⟩ : ∃ u, M.stepI l[p] r s = u := ⟨_, rfl⟩
      rw [hu] at HL HSt
      clear hu
      have hacn : acc.length < n := by have := HR.out.2.2.2.1.fuel; rw [HH.out.1] at this; omega
      have HQ := hid hpl
      go_wp2_with (at_builtin; refine wpList_append_lies _ rfl _ _ 41 rfl W1.heap.size 3 i0 (.int .i64 0) 1 8 Try.underlying41 hi hz0 hz1 hz2 rfl (by decide) _ acc.length _ rfl (HR.out.2.2.2.2.1.alloc _) ⟨wr.heap.size, 0, none⟩ 1 1 [.int .i64 (p : Int)] rfl rfl ?c1 ?c2 (by decide) ?c3 ?c4 ?c5 (wr.heap.size + 1) ?c6 ?_)
      case c1 => exact World.news_of_block (fr := (0, 0)) (t := 3) (by have := heap_alloc_new wr (Obj.cells #[.int .i64 (p : Int)] 3); simpa using this)
      case c2 => intro u hu; simp at hu; rw [hu]; rfl
      case c3 => unfold maxLen; omega
      case c4 => omega
      case c5 => have := HR.out.2.2.2.2.2; simp; omega
      case c6 => simp
      intro g cap2 w2 hown hgrow _ _
      have hb2 : Below W1.heap.size wr w2 := ((Below.refl _ wr).alloc HR.out.2.2.2.2.2 _).grown hgrow (by have := HR.out.2.2.2.2.2; simp; omega) (fun k hk => (HR.out.2.2.2.2.1.lt k hk).1)
      have hb2w : Below w.heap.size w w2 := HR.out.2.2.1.trans (hb2.mono (by omega))
      have hSt2 := HR.out.1.far hb2 hbig
      have hRc2 := HR.out.2.1.below hb2 (by omega)
      have hl21 := hSt2.load
      have hl16 := hRc2.load
      have hsz21 := encS_size hSt2.2
      have hsz16 := RB.enc_size hRc2.2
      rw [← i8s_snoc] at hown
      have HO := hid (And.intro hown (Nat.le_trans HR.out.2.2.2.2.2 hb2.size))
      have HM := hid (show qlen (.slice (some ⟨g, 0, none⟩) (acc.length + 1) cap2) = acc.length + 1 ∧ qlen u7 = acc.length from ⟨rfl, own_qlen HR.out.2.2.2.2.1⟩)
      have HW2 := hid (And.intro hSt2 (And.intro hRc2 hb2w))
      clear hown hgrow hb2 hb2w hSt2 hRc2 HR s1 s2 s3 s4 s5
      go_wp2_with fail
      refine (HSt.out _ (HH.out.2.2.1.below HW2.out.2.2)).mono ?_
      rintro e w3 ⟨rfl, hb⟩
      obtain ⟨W4, hst, hS4, hoth4, hsize4, hB4⟩ := (HW2.out.1.below hb).store (u := u) HL.out.ok.m.1
      have hsz4 := encS_size HL.out.ok.m.1
      have HF := hid (show St W4 (w.heap.size + 1) 33 u ∧ RB.Rec W4 w.heap.size r ∧ Below w.heap.size w W4 ∧ W4.ownsRow W1.heap.size 3 1 (.slice (some ⟨g, 0, none⟩) (acc.length + 1) cap2) (acc ++ [p]).length (i8s (acc ++ [p])) ∧ W1.heap.size ≤ W4.heap.size from
        ⟨hS4, ⟨by rw [hoth4 _ (by omega)]; exact (HW2.out.2.1.below hb HW2.out.2.1.lt).1, HW2.out.2.1.2⟩, hB4 w.heap.size w (by omega) (stp (hid HW2.out.2.2) hb).out,
          by rw [List.length_append]; exact own_other (own_below HO.out.1 hb) hbig hoth4, by rw [hsize4]; exact Nat.le_trans HO.out.2 hb.size⟩)
      clear hb hS4 hoth4 hsize4 hB4 hl21 hl16
      go_wp2
      go_roundw
      case rel => exact ⟨acc ++ [p], m, u, HF.out.1, HF.out.2.1, HF.out.2.2.1, HL.out, HF.out.2.2.2.1, HF.out.2.2.2.2⟩
      case measure => rw [HM.out.1, HM.out.2]; omega
    · rw [hen] at s4
      have hd := HR.out.2.2.2.1.done hen
      have hne := (M.run_ends HH.out.2.2.2.1 HH.out.2.1 r).2.1
      rw [hd] at hne
      simp only at hne
      have HD := hid hd
      have hpos : 0 < acc.length := by obtain ⟨tl, e⟩ := hne; rw [e]; simp
      obtain ⟨g, c, hv⟩ := own_form HR.out.2.2.2.2.1 hpos
      rw [hv] at HR ⊢
      have HX := hid (show Nx wr (some ⟨g, 0, none⟩) acc ∧ Below w.heap.size w wr from ⟨.inr ⟨g, rfl, (HR.out.2.2.2.2.1.lt g rfl).2, fun j hj => by rw [HR.out.2.2.2.2.1.cellAt j (by omega)]; exact i8s_get acc j hj⟩, HR.out.2.2.1⟩)
      clear HR hd hne
      go_wp2
      go_ret2
      exact ⟨g, c, by rw [HD.out]; rfl, by rw [HD.out]; exact HX.out.1, HX.out.2⟩
end Go.Proofs.Ytejolpbdpcllkaa.B
