/-
  The few answers that the document fixes for layer 12, as a walk over the Go text.
-/
import Derived.Test.YtapbeffjnpgglabSimAwk
import Derived.Deep.RegionHeldLaw
namespace Go.Proofs.Ytapbeffjnpgglab.TM
set_option maxRecDepth 100000
theorem z_num {L : List N} (hL : Row L) {i : Nat} (hi : i < L.length) {k : Int} (h : tr L i = .num k) : L[i] = (1, 0, 0, k) := by
  rw [← nat0_eq hi]; exact node_num hL hi h
theorem z_op {L : List N} (hL : Row L) (hO : Once L) (ok : ∀ x ∈ L, okN x) {i a : Nat} (hi : i < L.length) (ha : a < L.length) {o k : Int} {s : Tr} (h : tr L i = op2 o s (.num k)) (hs : tr L a = s) :
    ∃ b : Nat, ∃ hb : b < L.length, L[i] = (o + 256, (a : Int), (b : Int), 0) ∧ L[b] = (1, 0, 0, k) := by
  obtain ⟨b, hb, h1, h2⟩ := node_op hL hO ok hi ha h hs
  exact ⟨b, hb, by rw [← nat0_eq hi]; exact h1, by rw [← nat0_eq hb]; exact h2⟩
end Go.Proofs.Ytapbeffjnpgglab.TM
namespace Go.Proofs.Ytapbeffjnpgglab.TB
open Go.ChangeShapes Go.WideShapes Go.ChangeAt Go.RowKit
open Go.Sort hiding Below
set_option linter.unusedVariables false
set_option maxRecDepth 100000

theorem ly_litS (w : World) (l : List TM.N) (n : Nat) (hn : l.length = n) (hm : n ≤ maxLen) : LyN (w.alloc (.cells (n4s l).toArray 40)) w.heap.size 0 l :=
  ly_of_own (n := n) (cap := n) (World.ownsRow_lit (base := w.heap.size) (e := 40) (size := 4) w (n4s l).toArray n (Nat.le_refl _) hm (by simp [n4s_len, hn])) hn
theorem lit66 (w : World) : LyN (w.alloc (.cells #[.int .i64 1, .int .i64 0, .int .i64 0, .int .u32 6, .int .i64 288, .int .i64 0, .int .i64 0, .int .u32 0] 40)) w.heap.size 0 TM.z66 :=
  ly_litS w TM.z66 2 rfl (by unfold maxLen; omega)
theorem PoS.take {Pl : PoolIs} {base : Nat} {w0 W w' : World} {F : Nat → Prop} {v : Value} {L : List TM.N} {t : TM.Tr} {B : Nat} {e : Ending} (h : PoS Pl base w0 W F v L) (hA : PoolAt Pl W F v L t B e w') :
    ∃ F' L' p, e = .returned (.tuple #[.int .i64 ((p : Nat) : Int), .int .i64 0]) ∧ PoS Pl base w0 w' F' v L' ∧ L'.length ≤ L.length + B ∧ p < L'.length ∧ TM.tr L' p = t ∧ (∀ i, i < L.length → i < L'.length ∧ TM.tr L' i = TM.tr L i) ∧ Fr W w' F := by
  obtain ⟨F', L', p, h1, h2, h3, h4, h5, h6⟩ := hA
  exact ⟨F', L', p, h1, h.made h2 h4 h5 h6, h3, h2.lt, h2.tr, fun i hi => ⟨Nat.lt_of_lt_of_le hi h2.len, (h2.keep hi).2⟩, h5⟩

set_option maxHeartbeats 6400000 in
set_option maxRecDepth 1000000 in
theorem awake12 {Pl : PoolIs} (hPl : PoolOk Pl) (hSw : SwOk Pl) (hSb : SbOk Pl) (hSk : SkOk Pl) (hSg : SkArg Pl) (hSr : SkRange Pl) (hNil : SkNil) (hSa : SaOk) (hSn : SnOk) : Aw12 := by
  intro w
  have HP := hid hPl
  have HW := hid (fun W F v L (h : PoS Pl w.heap.size w W F v L) (hn : L.length ≤ 20000) => (hSw W F v L 0 h.pl h.row h.once h.ok hn (by omega) : Calls Try.prog 11 #[v, .int .i64 0] W _))
  have HB5 := hid (fun W F v L (h : PoS Pl w.heap.size w W F v L) (hn : L.length ≤ 20000) => (hSb W F v L 5 h.pl h.row h.once h.ok hn (by unfold TM.W32; omega) : Calls Try.prog 8 #[v, .int .u32 5] W _))
  have HB7 := hid (fun W F v L (h : PoS Pl w.heap.size w W F v L) (hn : L.length ≤ 20000) => (hSb W F v L 7 h.pl h.row h.once h.ok hn (by unfold TM.W32; omega) : Calls Try.prog 8 #[v, .int .u32 7] W _))
  have HK := hid (fun W F v L (h : PoS Pl w.heap.size w W F v L) (hn : L.length ≤ 20000) (op : Int) (a b : Nat) (ho : TM.isOp op = true) (ha : a < L.length) (hb : b < L.length) (wb : (Lit.int .i64 (b : Int)).wf = true) => hSk W F v L op a b b h.pl h.row h.once h.ok hn ho ha (fun _ => ⟨hb, rfl⟩) wb)
  have HG := hid (fun W F v L (h : PoS Pl w.heap.size w W F v L) (a : Nat) (wa : (Lit.int .i64 (a : Int)).wf = true) => hSg W F v L 144 a a h.pl (by decide) (by decide) wa wa)
  have HR := hid (fun W F v L (h : PoS Pl w.heap.size w W F v L) (hn : L.length ≤ 999) (a : Nat) (wa : (Lit.int .i64 (a : Int)).wf = true) => hSr W F v L 0 a 999 h.pl h.ok (by decide) wa (by decide) (.inr ⟨by omega, .inr (by omega)⟩))
  have HA := hid (fun W (A : Option Addr) (h : LiesN W A TM.z66) => (hSa A 2 2 TM.z66 1 rfl (by omega) TM.z66_row TM.z66_ok (by decide) W h : Calls Try.prog 13 #[.slice A 2 2, .int .i64 1] W _))
  have HN6 := hid (fun W (A : Option Addr) (h : LiesN W A TM.z66) => hSn A 2 2 TM.z66 false rfl (by omega) TM.z66_ok (by simp [TM.z66_no]) W h)
  have HN3 := hid (fun W (A : Option Addr) c (h : LiesN W A [((1, 0, 0, 36) : TM.N)]) => hSn A 1 c [(1, 0, 0, 36)] true rfl (by omega) (by unfold TM.okN; decide) (by simp [TM.z36]) W h)
  clear hPl hSw hSb hSk hSg hSr hSa hSn
  go_enter Try.func4, Try.ntmps4
  go_wp2_with fail
  refine (HP.out.new _).mono ?_
  rintro e w1 ⟨v, F0, rfl, hpl, hb, hF⟩
  have Q := hid (show PoS Pl w.heap.size w w1 F0 v [] from ⟨hpl, TM.row_nil, TM.once_nil, by simp, hb, hF, hb.size⟩)
  clear hpl hb hF
  go_wp2_with fail
  refine (HW.out _ _ _ _ Q.out (by simp)).mono ?_
  intro e w2 hA
  obtain ⟨F2, L2, a, rfl, Q2, n2, la, ta, k2, _⟩ := Q.out.take hA
  replace Q := hid Q2
  have T := hid (show L2.length ≤ 1 ∧ a < L2.length ∧ TM.tr L2 a = .var 0 from ⟨by simpa using n2, la, ta⟩)
  clear hA Q2 n2 la ta k2
  go_wp2_with fail
  refine (HB5.out _ _ _ _ Q.out (by have := T.out.1; omega)).mono ?_
  intro e w3 hA
  obtain ⟨F3, L3, b, rfl, Q3, n3, lb, tb, k3, _⟩ := Q.out.take hA
  replace Q := hid Q3
  replace T := hid (show L3.length ≤ 2 ∧ (a < L3.length ∧ TM.tr L3 a = .var 0) ∧ (b < L3.length ∧ TM.tr L3 b = .num 5) from ⟨by have := T.out.1; omega, ⟨(k3 a T.out.2.1).1, (k3 a T.out.2.1).2.trans T.out.2.2⟩, lb, tb⟩)
  clear hA Q3 n3 lb tb k3
  go_wp2_with fail
  refine (HK.out _ _ _ _ Q.out (by have := T.out.1; omega) 0 b a (by decide) T.out.2.2.1 T.out.2.1.1 (wfs (by have := T.out.2.1.1; have := T.out.1; omega))).mono ?_
  intro e w4 hA
  rw [T.out.2.1.2, T.out.2.2.2, TM.mk_5, show TM.clT 0 (.num 5) = 0 from rfl, show TM.clT 0 (.var 0) = 0 from rfl] at hA
  obtain ⟨F4, L4, c, rfl, Q4, n4, lc, tc, k4, _⟩ := Q.out.take hA
  replace Q := hid Q4
  replace T := hid (show L4.length ≤ 4 ∧ (a < L4.length ∧ TM.tr L4 a = .var 0) ∧ (c < L4.length ∧ TM.tr L4 c = TM.op2 0 (.var 0) (.num 5)) from ⟨by have := T.out.1; omega, ⟨(k4 a T.out.2.1.1).1, (k4 a T.out.2.1.1).2.trans T.out.2.1.2⟩, lc, tc⟩)
  clear hA Q4 n4 lc tc k4
  go_wp2_with fail
  refine (HB7.out _ _ _ _ Q.out (by have := T.out.1; omega)).mono ?_
  intro e w5 hA
  obtain ⟨F5, L5, d, rfl, Q5, n5, ld, td, k5, _⟩ := Q.out.take hA
  replace Q := hid Q5
  replace T := hid (show L5.length ≤ 5 ∧ (a < L5.length ∧ TM.tr L5 a = .var 0) ∧ (c < L5.length ∧ TM.tr L5 c = TM.op2 0 (.var 0) (.num 5)) ∧ (d < L5.length ∧ TM.tr L5 d = .num 7) from ⟨by have := T.out.1; omega, ⟨(k5 a T.out.2.1.1).1, (k5 a T.out.2.1.1).2.trans T.out.2.1.2⟩, ⟨(k5 c T.out.2.2.1).1, (k5 c T.out.2.2.1).2.trans T.out.2.2.2⟩, ld, td⟩)
  clear hA Q5 n5 ld td k5
  go_wp2_with fail
  refine (HK.out _ _ _ _ Q.out (by have := T.out.1; omega) 0 c d (by decide) T.out.2.2.1.1 T.out.2.2.2.1 (wfs (by have := T.out.2.2.2.1; have := T.out.1; omega))).mono ?_
  intro e w6 hA
  rw [T.out.2.2.1.2, T.out.2.2.2.2, TM.mk_12, show TM.clT 0 (TM.op2 0 (.var 0) (.num 5)) = 1 from by decide, show TM.clT 0 (.num 7) = 0 from rfl] at hA
  obtain ⟨F6, L6, s, rfl, Q6, n6, ls, ts, k6, _⟩ := Q.out.take hA
  replace Q := hid Q6
  replace T := hid (show L6.length ≤ 8 ∧ (a < L6.length ∧ TM.tr L6 a = .var 0) ∧ (s < L6.length ∧ TM.tr L6 s = TM.op2 0 (.var 0) (.num 12)) from ⟨by have := T.out.1; omega, ⟨(k6 a T.out.2.1.1).1, (k6 a T.out.2.1.1).2.trans T.out.2.1.2⟩, ls, ts⟩)
  clear hA Q6 n6 ls ts k6
  obtain ⟨y, hy, es, ey⟩ := TM.z_op Q.out.row Q.out.once Q.out.ok T.out.2.2.1 T.out.2.1.1 T.out.2.2.2 T.out.2.1.2
  go_wp2_with fail
  refine (HP.out.has _ _ _ _ s Q.out.pl T.out.2.2.1 _ _ _ _ es).mono ?_
  rintro e w7 ⟨rfl, hb⟩
  have hbx := al w7 (.cells #[.int .i64 256, .int .i64 (a : Int), .int .i64 (y : Int), .int .u32 0] 40)
  have hlt : ∀ b, F6 b → b < w7.heap.size := fun b h => Nat.lt_of_lt_of_le (HP.out.lt _ _ _ _ Q.out.pl b h) hb.size
  have NB := hid (NAt.new w7 256 (a : Int) (y : Int) 0)
  replace Q := hid (Q.out.below HP.out (hb.trans (hbx.mono hb.size)))
  clear hb
  go_wp2_with fail
  refine (HP.out.has _ _ _ _ y Q.out.pl hy _ _ _ _ ey).mono ?_
  rintro e w8 ⟨rfl, hb⟩
  obtain ⟨q, hq⟩ : ∃ q, w7.heap.size = q := ⟨_, rfl⟩
  rw [hq] at NB hlt ⊢
  have hq8 := Nat.lt_of_lt_of_le NB.out.lt hb.size
  have hbx := al w8 (.cells #[.int .i64 1, .int .i64 0, .int .i64 0, .int .u32 12] 40)
  have hb' := hb.trans (hbx.mono hb.size)
  have NC := hid (NAt.new w8 1 0 0 12)
  replace NB := hid (NB.out.below hb')
  replace Q := hid (Q.out.below HP.out hb')
  replace T := hid (show L6.length ≤ 8 ∧ (a < L6.length ∧ TM.tr L6 a = .var 0) from ⟨T.out.1, T.out.2.1⟩)
  clear hb hb' hbx es ey hy
  go_wp2_with fail
  obtain ⟨r, hr⟩ : ∃ r, w8.heap.size = r := ⟨_, rfl⟩
  rw [hr] at NC hq8 ⊢
  have hqF : ¬ F6 q := fun h => by have := hlt q h; omega
  have hrF : ¬ F6 r := fun h => by have := hlt r h; omega
  obtain ⟨w9, hw9⟩ : ∃ w9, w8.alloc (.cells #[.int .i64 1, .int .i64 0, .int .i64 0, .int .u32 12] 40) = w9 := ⟨_, rfl⟩
  rw [hw9] at NB NC Q ⊢
  clear hw9 hq hr hlt
  refine (HK.out _ _ _ _ Q.out (by have := T.out.1; omega) 16 a a (by decide) T.out.2.1 T.out.2.1 (wfs (by have := T.out.2.1; have := T.out.1; omega))).mono ?_
  intro e w10 hA
  rw [T.out.2.2, TM.mk_0, show TM.clT 16 (.var 0) = 0 from rfl] at hA
  obtain ⟨F7, L7, z, rfl, Q7, n7, lz, tz, k7, hfr⟩ := Q.out.take hA
  replace Q := hid Q7
  replace NB := hid (NB.out.fr hfr hqF)
  replace NC := hid (NC.out.fr hfr hrF)
  replace T := hid (show L7.length ≤ 10 ∧ a < L7.length from ⟨by have := T.out.1; omega, (k7 a T.out.2.1).1⟩)
  have ez := TM.z_num Q.out.row lz tz
  clear hA Q7 n7 tz k7 hfr hqF hrF
  go_wp2_with fail
  refine (HP.out.has _ _ _ _ z Q.out.pl lz _ _ _ _ ez).mono ?_
  rintro e w11 ⟨rfl, hb⟩
  have hbx := al w11 (.cells #[.int .i64 1, .int .i64 0, .int .i64 0, .int .u32 0] 40)
  have hb' := hb.trans (hbx.mono hb.size)
  have ND := hid (NAt.new w11 1 0 0 0)
  replace NB := hid (NB.out.below hb')
  replace NC := hid (NC.out.below hb')
  replace Q := hid (Q.out.below HP.out hb')
  clear hb hb' hbx ez lz
  go_wp2_with fail
  obtain ⟨u, hu⟩ : ∃ u, w11.heap.size = u := ⟨_, rfl⟩
  rw [hu] at ND ⊢
  obtain ⟨w12, hw12⟩ : ∃ w12, w11.alloc (.cells #[.int .i64 1, .int .i64 0, .int .i64 0, .int .u32 0] 40) = w12 := ⟨_, rfl⟩
  rw [hw12] at NB NC ND Q ⊢
  clear hw12 hu
  have wa : (Lit.int .i64 (a : Int)).wf = true := wfs (by have := T.out.1; have := T.out.2; omega)
  refine (HG.out _ _ _ _ Q.out a wa).mono ?_
  rintro e w13 ⟨rfl, hb⟩
  replace NB := hid (NB.out.below hb)
  replace NC := hid (NC.out.below hb)
  replace ND := hid (ND.out.below hb)
  replace Q := hid (Q.out.below HP.out hb)
  clear hb
  go_wp2_with fail
  refine (HR.out _ _ _ _ Q.out (by have := T.out.1; omega) a wa).mono ?_
  rintro e w14 ⟨rfl, hb⟩
  replace NB := hid (NB.out.below hb)
  replace NC := hid (NC.out.below hb)
  replace ND := hid (ND.out.below hb)
  replace Q := hid (Q.out.below HP.out hb)
  clear hb wa
  go_wp2_with fail
  refine (hNil _ _ _ _).mono ?_
  rintro e w15 ⟨rfl, hb⟩
  replace NB := hid (NB.out.below hb)
  replace NC := hid (NC.out.below hb)
  replace ND := hid (ND.out.below hb)
  have HB := hid (Q.out.below HP.out hb).bl
  clear hb Q T hNil
  have hly := lit66 w15
  have hbx := al w15 (.cells #[.int .i64 1, .int .i64 0, .int .i64 0, .int .u32 6, .int .i64 288, .int .i64 0, .int .i64 0, .int .u32 0] 40)
  go_wp2_with fail
  refine (HA.out _ _ hly.lies).mono ?_
  rintro e w16 ⟨a6, m6, c6, out, p6, rfl, ho, hm, hl6, hal, hb⟩
  have hb' := hbx.trans (hb.mono hbx.size)
  replace NB := hid (NB.out.below hb')
  replace NC := hid (NC.out.below hb')
  replace ND := hid (ND.out.below hb')
  replace HB := hid (stp HB hb').out
  rw [TM.z66_new] at hal
  obtain ⟨e1, e2⟩ := hal.num
  subst e1 e2
  simp only [List.length_cons, List.length_nil, Nat.zero_add] at ho
  subst ho
  clear hb hb' hbx hly hal hm
  obtain ⟨g6, o6, rfl, hly⟩ := hl6.ly (by decide)
  have hg6 := hly.1
  obtain ⟨_, _, _, x3⟩ := hly.2 0 (by decide)
  have x3 : w16.cell? ⟨g6, o6 + 3, none⟩ = some (.int .u32 36) := x3
  obtain ⟨n1, n2, n3, n4, _⟩ := NB.out.cells
  obtain ⟨t1, t2, t3, t4, _⟩ := NC.out.cells
  obtain ⟨u1, u2, u3, u4, _⟩ := ND.out.cells
  have hq := NB.out.lt
  have hr := NC.out.lt
  have hu := ND.out.lt
  simp only at n1 n2 n3 n4 t1 t2 t3 t4 u1 u2 u3 u4
  have hg := guardN
  have hq12 : ∀ W, (binOp .eql 40 (.agg #[.int .i64 1, .int .i64 0, .int .i64 0, .int .u32 12]) (.agg #[.int .i64 1, .int .i64 0, .int .i64 0, .int .u32 12])).run Try.prog W = .ok (.bool true) W := fun W => by rw [eqlN]; rfl
  have hq0 : ∀ W, (binOp .eql 40 (.agg #[.int .i64 1, .int .i64 0, .int .i64 0, .int .u32 0]) (.agg #[.int .i64 1, .int .i64 0, .int .i64 0, .int .u32 0])).run Try.prog W = .ok (.bool true) W := fun W => by rw [eqlN]; rfl
  clear hly HA HG HR HK HB5 HB7 HW HP
  go_wp2_with fail
  refine (HN3.out _ _ _ hl6).mono ?_
  rintro e w17 ⟨rfl, hb⟩
  have hb' := hb
  have hly := lit66 w17
  have hbx := al w17 (.cells #[.int .i64 1, .int .i64 0, .int .i64 0, .int .u32 6, .int .i64 288, .int .i64 0, .int .i64 0, .int .u32 0] 40)
  replace HB := hid ((stp HB hb).out.trans (hbx.mono (stp HB hb).out.size))
  clear hb hb' hl6
  go_wp2_with fail
  refine (HN6.out _ _ hly.lies).mono ?_
  rintro e w18 ⟨rfl, hb⟩
  have hfin : Below w.heap.size w w18 := (stp HB hb).out
  clear hb HB hly hbx
  go_wp2
  go_ret
  exact ⟨rfl, hfin⟩
end Go.Proofs.Ytapbeffjnpgglab.TB
