/-
  The program's Prune and Needed, as walks over the Go text: what the laws of layer 9 ask of them.
-/
import Derived.Test.YtahaooghebmhnaaPruCodG
import Derived.Test.YtahaooghebmhnaaPruLawT
namespace Go.Proofs.Ytahaooghebmhnaa.B
open Go.ChangeShapes Go.WideShapes Go.ChangeAt Go.RowKit
open Go.Sort hiding Below
set_option linter.unusedVariables false

theorem cequal_len (a b : Option Addr) (l m : List M.I) (n1 n2 ca cb : Nat) (w : World) (h1 : l.length = n1) (h2 : m.length = n2) (hl : Lies w a l) (hm : Lies w b m) (b1 : n1 ≤ 65536) (b2 : n2 ≤ 65536) (q : Bool) (hq : decide (l = m) = q) :
    Calls Try.prog 24 #[.slice a n1 ca, .slice b n2 cb] w fun e w' => e = .returned (.bool q) ∧ ∃ n, w' = w.drewN n := by
  subst h1 h2 hq
  exact equal_any a b l m ca cb w hl hm b1 b2

/-- the number in a cell -/
def cellN (v : Option Value) : Int := match v with
  | some (.int _ k) => k
  | _ => 0
/-- the list that a slice holds, as the world has it -/
def rdL (v : Value) (W : World) : List M.I := match v with
  | .slice (some A) n _ => (List.range n).map fun j => (cellN (W.cell? ⟨A.block, A.off + j * 4, none⟩), cellN (W.cell? ⟨A.block, A.off + j * 4 + 1, none⟩), cellN (W.cell? ⟨A.block, A.off + j * 4 + 2, none⟩), cellN (W.cell? ⟨A.block, A.off + j * 4 + 3, none⟩))
  | _ => []
theorem rdL_ly {W : World} {b o n c : Nat} {L : List M.I} (h : Ly W b o L) (hn : L.length = n) : rdL (.slice (some ⟨b, o, none⟩) n c) W = L := by
  unfold rdL
  apply List.ext_getElem
  · simp [hn]
  · intro j h1 h2
    obtain ⟨p0, p1, p2, p3⟩ := h.2 j h2
    rw [List.getElem_map, List.getElem_range]
    simp only [p0, p1, p2, p3, cellN]
/-- what is left to do -/
def mzP (v : Value) (W : World) : Nat := 2 * (rdL v W).length + (if M.roundL (rdL v W) = rdL v W then 0 else 1)
theorem mzP_less {W W' : World} {b o n c b' o' n' c' : Nat} {L : List M.I} (h : Ly W b o L) (hn : L.length = n) (hr : M.right L) (ok : ∀ i ∈ L, M.okI i) (h' : Ly W' b' o' (M.roundL L)) (hn' : (M.roundL L).length = n') (hne : M.roundL L ≠ L) :
    mzP (.slice (some ⟨b', o', none⟩) n' c') W' < mzP (.slice (some ⟨b, o, none⟩) n c) W := by
  unfold mzP
  rw [rdL_ly h hn, rdL_ly h' hn', if_neg hne]
  have hl := (M.round_len hr ok).2
  by_cases e : (M.roundL L).length = L.length
  · rw [if_pos (M.round_fix hr ok e)]; omega
  · split <;> omega

set_option maxHeartbeats 3200000 in
set_option maxRecDepth 1000000 in
theorem cprune : PrOk := by
  intro b o n cap l hln hn ok hr w hl
  have HC := hid (right_any (some ⟨b, o, none⟩) n cap l hln (by omega) ok w hl.lies true (M.right_of.2 hr))
  have HI := hid (fun W (hb : Below w.heap.size w W) => (show Ly W b o l ∧ l.length = n ∧ M.right l ∧ (∀ i ∈ l, M.okI i) ∧ M.pruneL l = M.pruneL l ∧ Below w.heap.size w W from ⟨hl.below hb, hln, hr, ok, rfl, hb⟩))
  clear hln ok hl hr
  go_enter Try.func9, Try.ntmps9
  go_wp2_with fail
  refine HC.out.mono ?_
  rintro e w1 ⟨rfl, hb⟩
  have HI := hid (HI.out w1 hb)
  clear hb HC
  go_wp2
  go_loopw [0] (fun v wr => ∃ (b' o' m c : Nat) (L : List M.I), m ≤ n ∧ v = .slice (some ⟨b', o', none⟩) m c ∧ Hid (Ly wr b' o' L ∧ L.length = m ∧ M.right L ∧ (∀ i ∈ L, M.okI i) ∧ M.pruneL L = M.pruneL l ∧ Below w.heap.size w wr)) (fun v wr => mzP v wr)
  case atStart => exact ⟨b, o, n, cap, l, Nat.le_refl _, rfl, HI.out.1, HI.out.2.1, HI.out.2.2.1, HI.out.2.2.2.1, rfl, HI.out.2.2.2.2.2⟩
  case round =>
    clear HI
    obtain ⟨b', o', m, c, L, hmn, rfl, HR⟩ := hrel
    have HC := hid (cround b' o' m c L HR.out.2.1 (by omega) HR.out.2.2.2.1 HR.out.2.2.1 wr HR.out.1)
    have hrl := (M.round_len HR.out.2.2.1 HR.out.2.2.2.1).2
    have hr0 := (M.round_len HR.out.2.2.1 HR.out.2.2.2.1).1
    obtain ⟨m', hm'⟩ : ∃ m', (M.roundL L).length = m' := ⟨_, rfl⟩
    rw [hm'] at HC hrl hr0
    rw [HR.out.2.1] at hrl
    obtain ⟨eq, heq⟩ : ∃ eq, decide (M.roundL L = L) = eq := ⟨_, rfl⟩
    have HS := hid (fun a1 a2 c1 c2 (W : World) h1 h2 => cequal_len a1 a2 (M.roundL L) L m' m c1 c2 W hm' HR.out.2.1 h1 h2 (by omega) (by omega) eq heq)
    have HE := hid heq
    have HM := hid hm'
    clear hm' heq
    go_wp2_with fail
    refine HC.out.mono ?_
    rintro e w2 ⟨a1, c1, rfl, hx, hb⟩
    obtain ⟨b1, o1, rfl, hy⟩ := hx.ly (by rw [HM.out]; exact hr0)
    have HX := hid (show Ly w2 b1 o1 (M.roundL L) ∧ Ly w2 b' o' L ∧ Below w.heap.size w w2 from ⟨hy, HR.out.1.below hb, (stp (hid HR.out.2.2.2.2.2) hb).out⟩)
    clear hx hy hb HC
    go_wp2_with fail
    refine (HS.out _ _ _ _ _ HX.out.1.lies HX.out.2.1.lies).mono ?_
    rintro e w3 ⟨rfl, q, rfl⟩
    have HY := hid (show Ly (w2.drewN q) b1 o1 (M.roundL L) ∧ Below w.heap.size w (w2.drewN q) from ⟨HX.out.1.below (bdrew (Below.refl _ _) q), bdrew HX.out.2.2 q⟩)
    obtain ⟨w4, hw4⟩ : ∃ w4, w2.drewN q = w4 := ⟨_, rfl⟩
    rw [hw4] at HY ⊢
    clear hw4 HX HS
    cases eq with
    | true =>
      have HF := hid (show M.pruneL l = M.roundL L from by
        have e := of_decide_eq_true HE.out
        rw [← HR.out.2.2.2.2.1, M.prune_fix e, e])
      go_wp2
      go_ret2
      exact ⟨some ⟨b1, o1, none⟩, c1, by rw [HF.out, HM.out]; rfl, by rw [HF.out]; exact HY.out.1.lies, HY.out.2⟩
    | false =>
      have hne := of_decide_eq_false HE.out
      have HF := hid (show M.pruneL (M.roundL L) = M.pruneL l ∧ M.right (M.roundL L) ∧ (∀ i ∈ M.roundL L, M.okI i) from
        ⟨by rw [← HR.out.2.2.2.2.1]; exact (M.prune_step HR.out.2.2.1 HR.out.2.2.2.1).symm, M.round_right HR.out.2.2.1 HR.out.2.2.2.1, M.rnd_ok HR.out.2.2.1 HR.out.2.2.2.1⟩)
      have HZ := hid (mzP_less (c := c) (c' := c1) HR.out.1 HR.out.2.1 HR.out.2.2.1 HR.out.2.2.2.1 HY.out.1 HM.out hne)
      clear HR HE hne
      go_wp2
      go_roundw
      case rel => exact ⟨b1, o1, m', c1, M.roundL L, by omega, rfl, HY.out.1, HM.out, HF.out.2.1, HF.out.2.2, HF.out.1, HY.out.2⟩
      case measure => exact HZ.out

set_option maxHeartbeats 1600000 in
set_option maxRecDepth 100000 in
theorem cprune_bad : PrBad := by
  intro a n cap l hln hn ok hb w hl
  have HC := hid (right_any a n cap l hln (by omega) ok w hl false hb)
  clear hln ok hb hl
  go_enter Try.func9, Try.ntmps9
  go_wp2_with fail
  refine HC.out.mono ?_
  rintro e w1 ⟨rfl, hb⟩
  have HB := hid hb
  clear hb HC
  go_wp2
  go_ret2
  exact ⟨none, 0, rfl, HB.out⟩

theorem cend_ok : EnOk := fun a n cap l i hln hn ok _ w hl => cend a n cap l i hln hn ok w hl

set_option maxHeartbeats 1600000 in
set_option maxRecDepth 100000 in
theorem cneed : NdOk := by
  intro b o n cap l hln hn ok hr w hl
  have HC := hid (right_any (some ⟨b, o, none⟩) n cap l hln (by omega) ok w hl.lies true (M.right_of.2 hr))
  have HS := hid (fun W (h : Below w.heap.size w W) => cstraight b o n cap l hln hn ok hr W (hl.below h))
  have HN := hid (fun g W (h : Ly W g 0 (M.strL l)) => cneeded g 0 n n (M.strL l) (by rw [M.strL_len]; exact hln) hn (M.strL_ok hr ok) (M.str_right hr ok) W h)
  have HH := hid hln
  clear hln ok hl hr
  go_enter Try.func10, Try.ntmps10
  go_wp2_with fail
  refine HC.out.mono ?_
  rintro e w1 ⟨rfl, hb⟩
  have HB := hid hb
  clear hb HC
  go_wp2_with fail
  refine (HS.out _ HB.out).mono ?_
  rintro e w2 ⟨gs, rfl, hR, hb, hg⟩
  replace HB := stp HB hb
  have HR := hid (show Ly w2 gs 0 (M.strL l) from hR.ly (by rw [M.strL_len]; exact HH.out) (fun j hj => by rw [← M.at0_eq hj, M.strL_at (by rw [M.strL_len] at hj; exact hj)]))
  clear hb hg hR HS
  go_wp2_with fail
  refine (HN.out _ _ HR.out).mono ?_
  rintro e w3 ⟨gn, rfl, hR, hb, hg⟩
  replace HB := stp HB hb
  have HO := hid hR
  clear hb hg hR HN HR
  go_wp2
  go_ret
  exact ⟨gn, n, rfl, HO.out, HB.out⟩

set_option maxHeartbeats 1600000 in
set_option maxRecDepth 100000 in
theorem cneed_bad : NdBad := by
  intro a n cap l hln hn ok hb w hl
  have HC := hid (right_any a n cap l hln (by omega) ok w hl false hb)
  clear hln ok hb hl
  go_enter Try.func10, Try.ntmps10
  go_wp2_with fail
  refine HC.out.mono ?_
  rintro e w1 ⟨rfl, hb⟩
  have HB := hid hb
  clear hb HC
  go_wp2
  go_ret
  exact ⟨none, 0, rfl, HB.out⟩
end Go.Proofs.Ytahaooghebmhnaa.B
