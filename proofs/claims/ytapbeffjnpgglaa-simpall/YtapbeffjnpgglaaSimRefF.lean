/-
  The reference's All and Normal of layer 12, as walks over the Go text.
-/
import Derived.Test.YtapbeffjnpgglaaSimRefE
namespace Go.Proofs.Ytapbeffjnpgglaa.TM
/-- the first k terms of a row, made anew, in a pool -/
structure AllK (l : List N) (k : Nat) (P : List N) (pc : Nat → Nat) : Prop where
  row : Row P
  once : Once P
  ok : ∀ x ∈ P, okN x
  len : P.length ≤ 4 * k
  at_ : ∀ j, j < k → pc j < P.length ∧ tr P (pc j) = anewT (tr l j)
theorem AllK.zero (l : List N) : AllK l 0 [] (fun _ => 0) := ⟨row_nil, once_nil, fun x hx => (by cases hx), Nat.le_refl _, fun j hj => absurd hj (Nat.not_lt_zero _)⟩
theorem AllK.step {l : List N} {k : Nat} {P P' : List N} {pc : Nat → Nat} {p : Nat} (h : AllK l k P pc) (hM : Made P P' (anewT (tr l k)) p) (hlen : P'.length ≤ P.length + 4) : AllK l (k + 1) P' (fun j => if j = k then p else pc j) := by
  refine ⟨hM.row, hM.once, hM.ok, by have := h.len; omega, fun j hj => ?_⟩
  by_cases e : j = k
  · subst e; simp only [if_true]; exact ⟨hM.lt, hM.tr⟩
  · simp only [if_neg e]
    obtain ⟨h1, h2⟩ := h.at_ j (by omega)
    exact ⟨by have := hM.len; omega, by rw [(hM.keep h1).2, h2]⟩
theorem clT_one {op : Int} {t : Tr} (h : nfT t) : clT op t ≤ 1 := by
  cases ht : trn op with
  | true => exact clT_nf h (by have := trn_iff.1 ht; omega)
  | false =>
    have : chn op t = none := by
      unfold chn
      split
      · rw [if_neg (by rw [ht]; simp)]
      · rfl
    rw [clT_flat this]; omega
theorem anew_leaf {x : N} {i : Nat} (hx : may x i = true) (h2 : x.1 ≤ 2) (v u : Nat → Tr) : trN x v = anewT (trN x u) := by
  rcases may_ok hx with ⟨h1, _⟩ | ⟨h1, _⟩ | ⟨h1, _⟩ | ⟨h1, _⟩
  · rw [trN_num h1, trN_num h1, anewT]
  · rw [trN_word h1, trN_word h1, anewT]
  · omega
  · have := isA_12 h1; omega
end Go.Proofs.Ytapbeffjnpgglaa.TM
namespace Go.Proofs.Ytapbeffjnpgglaa.TB
open Go.ChangeShapes Go.WideShapes Go.ChangeAt Go.RowKit
open Go.Sort hiding Below
set_option linter.unusedVariables false
set_option maxRecDepth 100000

set_option maxHeartbeats 6400000 in
set_option maxRecDepth 1000000 in
theorem rall (A : Option Addr) (n cap : Nat) (l : List TM.N) (hln : l.length = n) (hn : n ≤ 4000) (hr : TM.Row l) (ok : ∀ x ∈ l, TM.okN x) (w : World) (hl : LiesN w A l) :
    Calls Try.prog 24 #[.slice A n cap] w fun e w' => ∃ a m c P pc, e = .returned (.tuple #[.slice a m c, .slice (some ⟨w.heap.size, 0, none⟩) n n]) ∧ OwnN w' w.heap.size a m c P ∧ Row w' w.heap.size n (fun j => .int .i64 ((pc j : Nat) : Int)) ∧ Below w.heap.size w w' ∧ (∀ b, blk a = some b → w.heap.size < b) ∧ TM.AllK l n P pc := by
  obtain ⟨i0, hi, hz0, hz1, hz2⟩ := info_parts infoi
  have HH := hid (And.intro hln (And.intro ok (And.intro hl hr)))
  clear hln ok hl hr
  go_enter Try.func24, Try.ntmps24
  go_wp2_with (at_make; refine wpList_make_full _ rfl _ _ 26 rfl w.heap.size 3 i0 (.int .i64 0) 1 Try.underlying26 hi hz0 hz1 .i64 .i64 n n n rfl rfl rfl rfl ?c1 ?c2 (Nat.le_refl _) ?_)
  case c1 => rw [hz2]; omega
  case c2 => unfold maxLen; omega
  intro wm hown hgrow
  have hbm : Below w.heap.size w wm := (Below.refl _ _).grown hgrow (Nat.le_refl _) (by intro k hk; cases hk)
  have HM := hid (show OwnN wm w.heap.size none 0 0 [] ∧ Row wm w.heap.size n (fun j => .int .i64 ((if j < 0 then 0 else 0 : Nat) : Int)) ∧ Below w.heap.size w wm ∧ (∀ b, blk none = some b → w.heap.size < b) from
    ⟨OwnN.nil _ _, (Row.of_own hown (fun j hj => made_get (.int .i64 0) n j hj) (hown.lt _ rfl).2).congr fun j _ => rfl, hbm, fun b h => by cases h⟩)
  clear hown hgrow hbm
  go_wp2
  go_loopw [4, 6] (fun pv iv wr => ∃ (k m c : Nat) (a : Option Addr) (P : List TM.N) (pc : Nat → Nat), k ≤ n ∧ pv = .slice a m c ∧ iv = .int .i64 k ∧ Hid (OwnN wr w.heap.size a m c P ∧ Row wr w.heap.size n (fun j => .int .i64 ((if j < k then pc j else 0 : Nat) : Int)) ∧ Below w.heap.size w wr ∧ (∀ b, blk a = some b → w.heap.size < b) ∧ TM.AllK l k P pc)) (fun _ iv _ => n - (intOf iv).toNat)
  case atStart => exact ⟨0, 0, 0, none, [], fun _ => 0, Nat.zero_le _, rfl, rfl, HM.out.1, HM.out.2.1, HM.out.2.2.1, HM.out.2.2.2, TM.AllK.zero l⟩
  case round =>
    clear HM
    obtain ⟨k, m, c, a, P, pc, hk, rfl, rfl, HR⟩ := hrel
    by_cases hlt : k < n
    · have i2 : (k : Int) < (n : Int) := by omega
      have hkl : k < l.length := by rw [HH.out.1]; exact hlt
      obtain ⟨b, o, rfl, hly⟩ := (HH.out.2.2.1.below HR.out.2.2.1).ly (by omega)
      have hnode := hly.2 k hkl
      rw [← TM.nat0_eq hkl] at hnode
      have hmay := HH.out.2.2.2.2 k hkl
      have hok := TM.nat0_ok HH.out.2.1 k
      have htr := TM.tr_row HH.out.2.2.2 hkl
      generalize TM.nat0 l k = x at *
      obtain ⟨xo, xa, xb, xk⟩ := x
      obtain ⟨q0, q1, q2, q3⟩ := hnode
      simp only at q0 q1 q2 q3
      have hm := TM.may_ok hmay
      have hmlen : m ≤ 4 * k := by rw [← HR.out.1.len]; exact HR.out.2.2.2.2.len
      have hwg : w.heap.size < wr.heap.size := HR.out.2.1.lt
      have HEnd := hid (fun (W0 W : World) (h0 : Below wr.heap.size wr W0) (a' : Option Addr) (m' c' : Nat) (P' : List TM.N) (p : Nat) (hO' : OwnN W w.heap.size a' m' c' P') (hgr : W0.grownBy W (blk a)) (hnew : ∀ g, blk a' = some g → blk a = some g ∨ W0.heap.size ≤ g) (hM : TM.Made P P' (TM.anewT (TM.tr l k)) p) (hlen : P'.length ≤ P.length + 4) => (show
          Row W w.heap.size n (fun j => .int .i64 ((if j < k then pc j else 0 : Nat) : Int)) ∧
          OwnN (W.setCell ⟨w.heap.size, k, none⟩ (.int .i64 ((p : Nat) : Int))) w.heap.size a' m' c' P' ∧ Row (W.setCell ⟨w.heap.size, k, none⟩ (.int .i64 ((p : Nat) : Int))) w.heap.size n (fun j => .int .i64 ((if j < k + 1 then (if j = k then p else pc j) else 0 : Nat) : Int)) ∧ Below w.heap.size w (W.setCell ⟨w.heap.size, k, none⟩ (.int .i64 ((p : Nat) : Int))) ∧ (∀ b, blk a' = some b → w.heap.size < b) ∧ TM.AllK l (k + 1) P' (fun j => if j = k then p else pc j) from by
        have hne : some w.heap.size ≠ blk a := fun e => by have := HR.out.2.2.2.1 _ e.symm; omega
        have h1 := (HR.out.2.1.below h0).grown hgr hne
        have hnb : ∀ b, blk a' = some b → w.heap.size < b := fun b hb => by
          rcases hnew b hb with h | h
          · exact HR.out.2.2.2.1 b h
          · have := h0.size; omega
        refine ⟨h1, ?_, (h1.set k hlt _).congr (fun j hj => ?_), ?_, hnb, HR.out.2.2.2.2.step hM hlen⟩
        · exact hO'.grown ⟨rfl, rfl, rfl, by simp, fun q hq hne => Below.heap_setCell _ _ _ _ (fun e => hne (by rw [e]))⟩ (row := some w.heap.size) (fun A' hA' e => by
            injection e with e
            have := hnb w.heap.size (by unfold blk; rw [hA']; exact congrArg some e)
            omega)
        · by_cases e : j = k
          · subst e; rw [if_pos rfl, if_pos (by omega), if_pos rfl]
          · rw [if_neg e]
            by_cases e2 : j < k
            · rw [if_pos e2, if_pos (by omega), if_neg e]
            · rw [if_neg e2, if_neg (by omega)]
        · have h2 : Below w.heap.size w W := (stp (hid HR.out.2.2.1) h0).out.grown hgr (by have := h0.size; omega) (fun q hq => by have := HR.out.2.2.2.1 q hq; omega)
          exact h2.setCell (Nat.le_refl _) _))
      have HOw := hid (fun (W0 : World) (h0 : Below wr.heap.size wr W0) => (show OwnN W0 w.heap.size a m c P ∧ w.heap.size ≤ W0.heap.size from ⟨HR.out.1.below h0, by have := h0.size; omega⟩))
      have hg : ∀ ob : Obj, Row (wr.alloc ob) w.heap.size n (fun j => .int .i64 ((if j < k then pc j else 0 : Nat) : Int)) := fun ob => HR.out.2.1.below (al wr ob)
      have hbl := HR.out.1.len
      by_cases h2 : xo ≤ 2
      · have d1 : decide (xo ≤ 2) = true := decide_eq_true h2
        obtain ⟨L', p, hp⟩ : ∃ L' p, TM.putN P (xo, xa, xb, xk) = (L', p) := ⟨_, _, rfl⟩
        have hmP : TM.may (xo, xa, xb, xk) P.length = true := by
          rcases hm with ⟨g1, g2, g3⟩ | ⟨g1, g2, g3, g4⟩ | ⟨g1, _⟩ | ⟨g1, _⟩
          · rw [TM.may_num g1]; simp at g2 g3 ⊢; exact ⟨g2, g3⟩
          · rw [TM.may_word g1]; simp at g2 g3 g4 ⊢; exact ⟨⟨g2, g3⟩, g4⟩
          · simp only at g1; omega
          · have := TM.isA_12 g1; simp only at this; omega
        have hM := TM.Made.put HR.out.2.2.2.2.row HR.out.2.2.2.2.once HR.out.2.2.2.2.ok (by omega) hok hmP hp
        have hlen := (TM.putN_len P (xo, xa, xb, xk)).2
        rw [hp] at hlen
        rw [show TM.trN (xo, xa, xb, xk) (TM.tr P) = TM.anewT (TM.tr l k) by rw [htr]; exact TM.anew_leaf hmay h2 _ _] at hM
        have HPut := hid (fun W0 h0 => rput_any w.heap.size m c a P xo xa xb xk (by omega) W0 (HOw.out W0 h0).1 (HOw.out W0 h0).2 L' p hp)
        have HMM := hid (And.intro hM hlen)
        clear hg HR hly hmay hok htr hm h2 hM hlen hp hmP HOw hbl
        go_wp2_with fail
        refine (HPut.out _ (al wr _)).mono ?_
        rintro e w3 ⟨a', m', c', rfl, hO', hgr, hnew⟩
        have HE := hid (HEnd.out _ w3 (al wr _) a' m' c' L' p hO' hgr hnew HMM.out.1 (by have := HMM.out.2; omega))
        have c4 := HE.out.1.cell k hlt
        have f4 := HE.out.1.froz k hlt
        clear hO' hgr hnew HPut HEnd q0 q1 q2 q3
        go_wp2
        go_roundw
        case rel => exact ⟨k + 1, m', c', a', L', _, by omega, rfl, by go_num, HE.out.2⟩
        case measure => simp [intOf]; omega
      · have d1 : decide (xo ≤ 2) = false := decide_eq_false h2
        have hop : TM.isA xo = true ∧ 256 ≤ xo ∧ xo ≤ 416 := by
          rcases hm with h | h | h | h
          · simp only at h; omega
          · simp only at h; omega
          · simp only at h; exact ⟨by rw [TM.isA_iff]; omega, by omega, by omega⟩
          · have := TM.isA_12 h.1; exact ⟨h.1, this.2.2.1, this.2.2.2⟩
        have ha : 0 ≤ xa ∧ xa < k := by simp only at hm; rcases hm with h | h | h | h <;> omega
        obtain ⟨ap, rfl⟩ : ∃ ap : Nat, xa = ap := ⟨xa.toNat, by omega⟩
        have hak : ap < k := by omega
        have i3 : (ap : Int) < (n : Int) := by omega
        have hca : ∀ ob, (wr.alloc ob).cell? ⟨w.heap.size, ap, none⟩ = some (.int .i64 ((pc ap : Nat) : Int)) := fun ob => by
          have := (hg ob).cell ap (by omega); rw [if_pos hak] at this; exact this
        obtain ⟨opp, hpp⟩ : ∃ opp, xo - 256 = opp := ⟨_, rfl⟩
        have z1 : IntKind.i64.wrap (xo - 256) = opp := (Go.IntWalk.i64_in _ (by omega)).trans hpp
        have hisop : TM.isOp opp = true := by unfold TM.isOp; rw [← hpp, show xo - 256 + 256 = xo by omega]; exact hop.1
        have hnf : ∀ j, j < k → TM.nfT (TM.tr P (pc j)) := fun j hj => by rw [(HR.out.2.2.2.2.at_ j hj).2]; exact TM.anew_nf _ (TM.tr_okT HH.out.2.2.2 HH.out.2.1 j (by omega))
        by_cases h3 : xo = 384
        · subst h3
          have d3 : ((384 : Int) != 384) = false := by decide
          obtain rfl : opp = 128 := by omega
          have htk : TM.anewT (TM.tr l k) = TM.mkT 128 (TM.tr P (pc ap)) (TM.tr P 0) := by
            rw [htr, TM.trN_neg (x := (384, (ap : Int), xb, xk)) rfl]
            simp only [Int.toNat_natCast]
            rw [TM.anewT, ← (HR.out.2.2.2.2.at_ ap hak).2, TM.mkT_neg, TM.mkT_neg]
          have HMk := hid (fun W0 h0 => (rmake_neg w.heap.size m c (pc ap) 0 (TM.tr P 0) a P (by omega) HR.out.2.2.2.2.row HR.out.2.2.2.2.once HR.out.2.2.2.2.ok (by have := (HR.out.2.2.2.2.at_ ap hak).1; omega) W0 (HOw.out W0 h0).1 (HOw.out W0 h0).2))
          rw [← htk] at HMk
          clear hg HR hly hmay hok htr hm h2 HOw hbl hop hisop hnf hpp htk
          have cA := hca (.cells #[.int .i64 384, .int .i64 (ap : Int), .int .i64 xb, .int .u32 xk] 58)
          obtain ⟨x0, x1, x2, x3, _⟩ := (NAt.new wr 384 ap xb xk).cells
          simp only at x0 x1 x2 x3
          go_wp2
          go_region_with (go_at_call 15; refine (HMk.out _ (al wr _).drew).mono ?_; rintro e w3 ⟨a', m', c', L', p, rfl, hO', hgr, hnew, _, hM, hlen⟩; have HE := hid (HEnd.out _ w3 (al wr _).drew a' m' c' L' p hO' hgr hnew hM (by omega)); have c4 := HE.out.1.cell k hlt; have f4 := HE.out.1.froz k hlt; clear hO' hgr hnew hM hlen)
          all_goals
            clear HMk HEnd q0 q1 q2 q3 hca cA x0 x1 x2 x3
            go_wp2
            go_roundw
            case rel => exact ⟨k + 1, m', c', a', L', _, by omega, rfl, by go_num, HE.out.2⟩
            case measure => simp [intOf]; omega
        · have d3 : (xo != 384) = true := by simp [bne, h3]
          have hb2 : 0 ≤ xb ∧ xb < k := by simp only at hm; rcases hm with h | h | h | h <;> omega
          obtain ⟨bp, rfl⟩ : ∃ bp : Nat, xb = bp := ⟨xb.toNat, by omega⟩
          have hbk : bp < k := by omega
          have i4 : (bp : Int) < (n : Int) := by omega
          have hcb : ∀ ob, (wr.alloc ob).cell? ⟨w.heap.size, bp, none⟩ = some (.int .i64 ((pc bp : Nat) : Int)) := fun ob => by
            have := (hg ob).cell bp (by omega); rw [if_pos hbk] at this; exact this
          have htk : TM.anewT (TM.tr l k) = TM.mkT opp (TM.tr P (pc ap)) (TM.tr P (pc bp)) := by
            rw [htr, TM.trN_two (x := (xo, (ap : Int), (bp : Int), xk)) hop.1 h3]
            simp only [Int.toNat_natCast]
            rw [TM.anewT, ← (HR.out.2.2.2.2.at_ ap hak).2, ← (HR.out.2.2.2.2.at_ bp hbk).2, hpp]
          have hbd := Nat.add_le_add (TM.clT_one (op := opp) (hnf ap hak)) (TM.clT_one (op := opp) (hnf bp hbk))
          have HMk := hid (fun W0 h0 => (rmake_two opp hisop (by omega) w.heap.size m c (pc ap) (pc bp) a P (by omega) HR.out.2.2.2.2.row HR.out.2.2.2.2.once HR.out.2.2.2.2.ok (by have := (HR.out.2.2.2.2.at_ ap hak).1; omega) (by have := (HR.out.2.2.2.2.at_ bp hbk).1; omega) W0 (HOw.out W0 h0).1 (HOw.out W0 h0).2))
          rw [← htk] at HMk
          clear hg HR hly hmay hok htr hm h2 h3 HOw hbl hop hisop hnf hpp htk
          have cA := hca (.cells #[.int .i64 xo, .int .i64 (ap : Int), .int .i64 (bp : Int), .int .u32 xk] 58)
          have cB := hcb (.cells #[.int .i64 xo, .int .i64 (ap : Int), .int .i64 (bp : Int), .int .u32 xk] 58)
          obtain ⟨x0, x1, x2, x3, _⟩ := (NAt.new wr xo ap bp xk).cells
          simp only at x0 x1 x2 x3
          go_wp2
          go_region_with (go_at_call 15; refine (HMk.out _ (al wr _).drew).mono ?_; rintro e w3 ⟨a', m', c', L', p, rfl, hO', hgr, hnew, _, hM, hlen⟩; have HE := hid (HEnd.out _ w3 (al wr _).drew a' m' c' L' p hO' hgr hnew hM (by omega)); have c4 := HE.out.1.cell k hlt; have f4 := HE.out.1.froz k hlt; clear hO' hgr hnew hM hlen)
          all_goals
            clear HMk HEnd q0 q1 q2 q3 hca hcb cA cB x0 x1 x2 x3
            go_wp2
            go_roundw
            case rel => exact ⟨k + 1, m', c', a', L', _, by omega, rfl, by go_num, HE.out.2⟩
            case measure => simp [intOf]; omega
    · obtain rfl : k = n := by omega
      have HF := hid (show Row wr w.heap.size k (fun j => .int .i64 ((pc j : Nat) : Int)) from HR.out.2.1.congr fun j hj => by rw [if_pos hj])
      go_wp2
      go_ret2
      exact ⟨a, m, c, P, pc, rfl, HR.out.1, HF.out, HR.out.2.2.1, HR.out.2.2.2.1, HR.out.2.2.2.2⟩
end Go.Proofs.Ytapbeffjnpgglaa.TB
