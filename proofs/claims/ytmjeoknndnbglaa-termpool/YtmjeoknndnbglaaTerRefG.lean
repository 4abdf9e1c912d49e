/-
  The reference's Into of layer 11, as a walk over the Go text.
-/
import Derived.Test.YtmjeoknndnbglaaTerRefF
namespace Go.Proofs.Ytmjeoknndnbglaa.TB
open Go.ChangeShapes Go.WideShapes Go.ChangeAt Go.RowKit
open Go.Sort hiding Below
set_option linter.unusedVariables false
set_option maxRecDepth 100000

/-- what lies apart from the row that grows stays: two steps -/
theorem gcomp {a b c : World} {r s : Option Nat} (h1 : a.grownBy b r) (h2 : b.grownBy c s) (hs : ∀ k, s = some k → r = some k ∨ a.heap.size ≤ k) : a.grownBy c r :=
  ⟨h2.os.trans h1.os, h2.tape.trans h1.tape, h2.output.trans h1.output, Nat.le_trans h1.size h2.size, fun k hk hne => (h2.block k (Nat.lt_of_lt_of_le hk h1.size) (fun e => by
    rcases hs k e.symm with h | h
    · exact hne h.symm
    · omega)).trans (h1.block k hk hne)⟩
theorem Row.grown {W W' : World} {g n : Nat} {V : Nat → Value} {row : Option Nat} (h : Row W g n V) (hg : W.grownBy W' row) (hne : some g ≠ row) : Row W' g n V := by
  have e := hg.block g h.lt hne
  exact ⟨Nat.lt_of_lt_of_le h.lt hg.size, fun j hj => by rw [← h.cell j hj]; exact World.cell?_of_block e, fun j hj => by rw [← h.froz j hj]; exact World.frozen?_of_block e⟩
theorem gbelow {base : Nat} {w W : World} {r : Option Nat} (h : w.grownBy W r) (hb : base ≤ w.heap.size) (hr : ∀ k, r = some k → base ≤ k) : Below base w W := (Below.refl base w).grown h hb hr

set_option maxHeartbeats 6400000 in
set_option maxRecDepth 1000000 in
theorem rinto_any (base m0 c0 : Nat) (a0 : Option Addr) (P : List TM.N) (A : Option Addr) (n cap : Nat) (l : List TM.N) (hln : l.length = n) (hr : TM.Row l) (ok : ∀ x ∈ l, TM.okN x) (hP : TM.Row P) (hPo : TM.Once P) (okP : ∀ x ∈ P, TM.okN x) (hPn : P.length + n ≤ 65536)
    (w : World) (hl : LiesN w A l) (hbase : base ≤ w.heap.size) (hlb : 0 < n → ∀ B, A = some B → B.block < base) (hO : OwnN w base a0 m0 c0 P) :
    Calls Try.prog 29 #[.slice a0 m0 c0, .slice A n cap] w fun e w' => ∃ a m c, e = .returned (.tuple #[.slice a m c, .slice (some ⟨w.heap.size, 0, none⟩) n n]) ∧ OwnN w' base a m c (TM.pl P l n) ∧ Row w' w.heap.size n (fun j => .int .i64 ((TM.plc P l j : Nat) : Int)) ∧ w.grownBy w' (blk a0) ∧ (∀ b, blk a = some b → blk a0 = some b ∨ w.heap.size < b) := by
  obtain ⟨i0, hi, hz0, hz1, hz2⟩ := info_parts infoi
  have hn : n ≤ 65536 := by omega
  have hI := fun i (hi : i ≤ n) => TM.pl_inv hr ok hP hPo okP (by rw [hln]; exact hPn) i (by rw [hln]; exact hi)
  have HH := hid (And.intro hln (And.intro ok (And.intro hl (And.intro hr hlb))))
  have HA0 := hid hO.at
  have HO := hid hO
  have HI := hid hI
  clear hln ok hl hr hP hPo okP hlb hO hI
  go_enter Try.func29, Try.ntmps29
  go_wp2_with (at_make; refine wpList_make_full _ rfl _ _ 52 rfl w.heap.size 3 i0 (.int .i64 0) 1 Try.underlying52 hi hz0 hz1 .i64 .i64 n n n rfl rfl rfl rfl ?c1 ?c2 (Nat.le_refl _) ?_)
  case c1 => rw [hz2]; omega
  case c2 => unfold maxLen; omega
  intro wm hown hgrow
  have hbm : Below w.heap.size w wm := (Below.refl _ _).grown hgrow (Nat.le_refl _) (by intro k hk; cases hk)
  have HM := hid (show OwnN wm base a0 m0 c0 (TM.pl P l 0) ∧ Row wm w.heap.size n (fun j => .int .i64 ((if j < 0 then TM.plc P l j else 0 : Nat) : Int)) ∧ w.grownBy wm (blk a0) ∧ (∀ b, blk a0 = some b → blk a0 = some b ∨ w.heap.size < b) from
    ⟨by rw [TM.pl_zero]; exact HO.out.below hbm, (Row.of_own hown (fun j hj => made_get (.int .i64 0) n j hj) (hown.lt _ rfl).2).congr fun j _ => rfl, ⟨hbm.os, hbm.tape, hbm.output, hbm.size, fun k hk _ => hbm.block k hk⟩, fun b h => .inl h⟩)
  clear hown hgrow hbm HO
  go_wp2
  go_loopw [0, 7] (fun pv iv wr => ∃ (k m c : Nat) (a : Option Addr), k ≤ n ∧ pv = .slice a m c ∧ iv = .int .i64 k ∧ Hid (OwnN wr base a m c (TM.pl P l k) ∧ Row wr w.heap.size n (fun j => .int .i64 ((if j < k then TM.plc P l j else 0 : Nat) : Int)) ∧ w.grownBy wr (blk a0) ∧ (∀ b, blk a = some b → blk a0 = some b ∨ w.heap.size < b))) (fun _ iv _ => n - (intOf iv).toNat)
  case atStart => exact ⟨0, m0, c0, a0, Nat.zero_le _, rfl, rfl, HM.out⟩
  case round =>
    clear HM
    obtain ⟨k, m, c, a, hk, rfl, rfl, HR⟩ := hrel
    by_cases hlt : k < n
    · have i2 : (k : Int) < (n : Int) := by omega
      have hkl : k < l.length := by rw [HH.out.1]; exact hlt
      obtain ⟨b, o, rfl, hly⟩ := HH.out.2.2.1.ly (by omega)
      have hr0 : ∀ j, blk a0 = some j → base ≤ j := fun j hj => by
        obtain ⟨A', h1, h2⟩ := blk_at hj
        have := (HA0.out A' h1).1; omega
      obtain ⟨x, hx⟩ : ∃ x, l[k] = x := ⟨_, rfl⟩
      have h0x : TM.nat0 l k = x := by rw [TM.nat0_eq hkl]; exact hx
      obtain ⟨q0, q1, q2, q3⟩ := (by rw [← hx]; exact (hly.far (gbelow HR.out.2.2.1 hbase hr0) (HH.out.2.2.2.2 (by omega) _ rfl)).2 k hkl : NodeAt wr b o k x)
      have hm := TM.may_ok (by rw [← h0x]; exact HH.out.2.2.2.1.2 k hkl : TM.may x k = true)
      have hmv : TM.mv P l k = TM.moved x (TM.plc P l) := by unfold TM.mv; rw [h0x]
      have hinv := HI.out k (by omega)
      have hmlen : m ≤ P.length + k := by rw [← HR.out.1.len]; exact hinv.1
      have hg : ∀ ob : Obj, Row (wr.alloc ob) w.heap.size n (fun j => .int .i64 ((if j < k then TM.plc P l j else 0 : Nat) : Int)) := fun ob => HR.out.2.1.below (al wr ob)
      have HPut := hid (fun (xo xa xb xk : Int) W (hW : OwnN W base a m c (TM.pl P l k)) (hb : base ≤ W.heap.size) (hy : TM.mv P l k = (xo, xa, xb, xk)) =>
        rput_any base m c a (TM.pl P l k) xo xa xb xk (by omega) W hW hb (TM.pl P l (k + 1)) (TM.plc P l k) (by rw [TM.pl_succ HH.out.2.2.2.1 hkl, TM.plc_eq HH.out.2.2.2.1 hkl, hy]))
      have hwg : w.heap.size < wr.heap.size := HR.out.2.1.lt
      -- behind Put: the row of places, the frame
      have HEnd := hid (fun (ob : Obj) (W : World) (a' : Option Addr) (hgr : (wr.alloc ob).grownBy W (blk a)) (hnew : ∀ g, blk a' = some g → blk a = some g ∨ (wr.alloc ob).heap.size ≤ g) => (show
          Row W w.heap.size n (fun j => .int .i64 ((if j < k then TM.plc P l j else 0 : Nat) : Int)) ∧
          Row (W.setCell ⟨w.heap.size, k, none⟩ (.int .i64 ((TM.plc P l k : Nat) : Int))) w.heap.size n (fun j => .int .i64 ((if j < k + 1 then TM.plc P l j else 0 : Nat) : Int)) ∧ w.grownBy (W.setCell ⟨w.heap.size, k, none⟩ (.int .i64 ((TM.plc P l k : Nat) : Int))) (blk a0) ∧ (∀ b, blk a' = some b → blk a0 = some b ∨ w.heap.size < b) from by
        have hne : some w.heap.size ≠ blk a := fun e => by
          rcases HR.out.2.2.2 _ e.symm with h | h
          · obtain ⟨A', h1, h2⟩ := blk_at h
            have := (HA0.out A' h1).2; omega
          · omega
        have h1 := (hg ob).grown hgr hne
        have hsz := (al wr ob).size
        refine ⟨h1, (h1.set k hlt _).congr (fun j hj => ?_), ?_, fun b hb => ?_⟩
        · by_cases e : j = k
          · subst e; rw [if_pos rfl, if_pos (by omega)]
          · rw [if_neg e]
            by_cases e2 : j < k
            · rw [if_pos e2, if_pos (by omega)]
            · rw [if_neg e2, if_neg (by omega)]
        · have h2 : w.grownBy W (blk a0) := gcomp HR.out.2.2.1 (gtrans (al wr ob) hgr) (fun q hq => by
            rcases HR.out.2.2.2 q hq with h | h
            · exact .inl h
            · exact .inr (by omega))
          exact ⟨h2.os, h2.tape, h2.output, by simpa using h2.size, fun q hq hne => by rw [Below.heap_setCell _ _ _ _ (show q ≠ w.heap.size by omega)]; exact h2.block q hq hne⟩
        · rcases hnew b hb with h | h
          · exact HR.out.2.2.2 b h
          · exact .inr (by omega)))
      have HOw := hid (fun ob : Obj => (HR.out.1.below (al wr ob) : OwnN (wr.alloc ob) base a m c (TM.pl P l k)))
      have HBs := hid (fun ob : Obj => (show base ≤ (wr.alloc ob).heap.size from by have := (al wr ob).size; omega))
      have hbl := HR.out.1.len
      clear hx h0x hly HR hinv
      obtain ⟨xo, xa, xb, xk⟩ := x
      simp only at q0 q1 q2 q3 hm
      by_cases h2 : xo ≤ 2
      · have d1 : decide (2 < xo) = false := decide_eq_false (by omega)
        have hy : TM.mv P l k = (xo, xa, xb, xk) := by rw [hmv]; unfold TM.moved; rw [if_pos h2]
        clear hmv hm h2 hg
        go_wp2_with fail
        refine (HPut.out xo xa xb xk _ (HOw.out _) (HBs.out _) hy).mono ?_
        rintro e w3 ⟨a', m', c', rfl, hO', hgr, hnew⟩
        have HE := hid (HEnd.out _ w3 a' hgr hnew)
        have c4 := HE.out.1.cell k hlt
        have f4 := HE.out.1.froz k hlt
        have HO3 := hid (show OwnN (w3.setCell ⟨w.heap.size, k, none⟩ (.int .i64 ((TM.plc P l k : Nat) : Int))) base a' m' c' (TM.pl P l (k + 1)) from hO'.grown ⟨rfl, rfl, rfl, by simp, fun q hq hne => Below.heap_setCell _ _ _ _ (fun e => hne (by rw [e]))⟩ (row := some w.heap.size) (fun A' hA' e => by
          injection e with e
          rcases HE.out.2.2.2 w.heap.size (by unfold blk; rw [hA']; exact congrArg some e) with h | h
          · obtain ⟨A2, h1, h2⟩ := blk_at h
            have := (HA0.out A2 h1).2; omega
          · omega))
        clear hO' hgr hnew HPut HEnd HOw HBs hy q0 q1 q2 q3
        go_wp2
        go_roundw
        case rel => exact ⟨k + 1, m', c', a', by omega, rfl, by go_num, HO3.out, HE.out.2⟩
        case measure => simp [intOf]; omega
      · have d1 : decide (2 < xo) = true := decide_eq_true (by omega)
        have ha : 0 ≤ xa ∧ xa < k := by rcases hm with h | h | h | h <;> omega
        obtain ⟨ap, rfl⟩ : ∃ ap : Nat, xa = ap := ⟨xa.toNat, by omega⟩
        have hak : ap < k := by omega
        have i3 : (ap : Int) < (n : Int) := by omega
        have hca : ∀ ob, (wr.alloc ob).cell? ⟨w.heap.size, ap, none⟩ = some (.int .i64 ((TM.plc P l ap : Nat) : Int)) := fun ob => by
          have := (hg ob).cell ap (by omega); rw [if_pos hak] at this; exact this
        by_cases h3 : xo = 384
        · subst h3
          have hy : TM.mv P l k = (384, ((TM.plc P l ap : Nat) : Int), xb, xk) := by rw [hmv]; unfold TM.moved; rw [if_neg h2, if_pos rfl]; simp
          clear hmv hm h2 hg
          go_wp2_with fail
          refine (HPut.out 384 _ xb xk _ (HOw.out _) (HBs.out _) hy).mono ?_
          rintro e w3 ⟨a', m', c', rfl, hO', hgr, hnew⟩
          have HE := hid (HEnd.out _ w3 a' hgr hnew)
          have c4 := HE.out.1.cell k hlt
          have f4 := HE.out.1.froz k hlt
          have HO3 := hid (show OwnN (w3.setCell ⟨w.heap.size, k, none⟩ (.int .i64 ((TM.plc P l k : Nat) : Int))) base a' m' c' (TM.pl P l (k + 1)) from hO'.grown ⟨rfl, rfl, rfl, by simp, fun q hq hne => Below.heap_setCell _ _ _ _ (fun e => hne (by rw [e]))⟩ (row := some w.heap.size) (fun A' hA' e => by
            injection e with e
            rcases HE.out.2.2.2 w.heap.size (by unfold blk; rw [hA']; exact congrArg some e) with h | h
            · obtain ⟨A2, h1, h2⟩ := blk_at h
              have := (HA0.out A2 h1).2; omega
            · omega))
          clear hO' hgr hnew HPut HEnd HOw HBs hy q0 q1 q2 q3 hca
          go_wp2
          go_roundw
          case rel => exact ⟨k + 1, m', c', a', by omega, rfl, by go_num, HO3.out, HE.out.2⟩
          case measure => simp [intOf]; omega
        · have d3 : (xo != 384) = true := by simp [bne, h3]
          have hb2 : 0 ≤ xb ∧ xb < k := by rcases hm with h | h | h | h <;> omega
          obtain ⟨bp, rfl⟩ : ∃ bp : Nat, xb = bp := ⟨xb.toNat, by omega⟩
          have hbk : bp < k := by omega
          have i4 : (bp : Int) < (n : Int) := by omega
          have hcb : ∀ ob, (wr.alloc ob).cell? ⟨w.heap.size, bp, none⟩ = some (.int .i64 ((TM.plc P l bp : Nat) : Int)) := fun ob => by
            have := (hg ob).cell bp (by omega); rw [if_pos hbk] at this; exact this
          have hy : TM.mv P l k = (xo, ((TM.plc P l ap : Nat) : Int), ((TM.plc P l bp : Nat) : Int), xk) := by rw [hmv]; unfold TM.moved; rw [if_neg h2, if_neg h3]; simp
          clear hmv hm h2 h3 hg
          go_wp2_with fail
          refine (HPut.out xo _ _ xk _ (HOw.out _) (HBs.out _) hy).mono ?_
          rintro e w3 ⟨a', m', c', rfl, hO', hgr, hnew⟩
          have HE := hid (HEnd.out _ w3 a' hgr hnew)
          have c4 := HE.out.1.cell k hlt
          have f4 := HE.out.1.froz k hlt
          have HO3 := hid (show OwnN (w3.setCell ⟨w.heap.size, k, none⟩ (.int .i64 ((TM.plc P l k : Nat) : Int))) base a' m' c' (TM.pl P l (k + 1)) from hO'.grown ⟨rfl, rfl, rfl, by simp, fun q hq hne => Below.heap_setCell _ _ _ _ (fun e => hne (by rw [e]))⟩ (row := some w.heap.size) (fun A' hA' e => by
            injection e with e
            rcases HE.out.2.2.2 w.heap.size (by unfold blk; rw [hA']; exact congrArg some e) with h | h
            · obtain ⟨A2, h1, h2⟩ := blk_at h
              have := (HA0.out A2 h1).2; omega
            · omega))
          clear hO' hgr hnew HPut HEnd HOw HBs hy q0 q1 q2 q3 hca hcb
          go_wp2
          go_roundw
          case rel => exact ⟨k + 1, m', c', a', by omega, rfl, by go_num, HO3.out, HE.out.2⟩
          case measure => simp [intOf]; omega
    · obtain rfl : k = n := by omega
      have HF := hid (show OwnN wr base a m c (TM.pl P l k) ∧ Row wr w.heap.size k (fun j => .int .i64 ((TM.plc P l j : Nat) : Int)) ∧ w.grownBy wr (blk a0) ∧ (∀ b, blk a = some b → blk a0 = some b ∨ w.heap.size < b) from ⟨HR.out.1, HR.out.2.1.congr fun j hj => by rw [if_pos hj], HR.out.2.2⟩)
      clear HR
      go_wp2
      go_ret2
      exact ⟨a, m, c, rfl, HF.out⟩
end Go.Proofs.Ytmjeoknndnbglaa.TB
