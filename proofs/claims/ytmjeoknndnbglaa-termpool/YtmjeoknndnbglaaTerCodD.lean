/-
  The program's three closures of layer 11 that tell a node's value, words, size, as walks over the Go text; beginnings of rows.
-/
import Derived.Test.YtmjeoknndnbglaaTerCodC
import Derived.Test.YtmjeoknndnbglaaTerRefC
import Derived.Test.YtmjeoknndnbglaaTerRefD
namespace Go.Proofs.Ytmjeoknndnbglaa.TM
set_option linter.unusedVariables false
theorem nat0_take {l : List N} {m i : Nat} (h : i < m) (hm : m ≤ l.length) : nat0 (l.take m) i = nat0 l i := by
  rw [nat0_eq (by rw [List.length_take]; omega), nat0_eq (by omega), List.getElem_take]
theorem row_take {l : List N} (hl : Row l) {m : Nat} (hm : m ≤ l.length) : Row (l.take m) := by
  have hlen : (l.take m).length = m := by rw [List.length_take]; omega
  refine ⟨by have := hl.1; omega, fun i hi => ?_⟩
  rw [nat0_take (by omega) hm]; exact hl.2 i (by omega)
theorem valsF_take {l : List N} {m : Nat} (hm : m ≤ l.length) (r : List Int) : ∀ i, i ≤ m → valsF (l.take m) r i = valsF l r i := by
  intro i
  induction i with
  | zero => intro _; rfl
  | succ i ih => intro hi; rw [valsF, valsF, ih (by omega), nat0_take (by omega) hm]
theorem val_take {l : List N} {m i : Nat} (r : List Int) (h : i < m) (hm : m ≤ l.length) : val (l.take m) r i = val l r i := by
  unfold val; rw [valsF_take hm r (i + 1) (by omega)]
theorem szF_take {l : List N} {m : Nat} (hm : m ≤ l.length) : ∀ i, i ≤ m → szF (l.take m) i = szF l i := by
  intro i
  induction i with
  | zero => intro _; rfl
  | succ i ih => intro hi; rw [szF, szF, ih (by omega), nat0_take (by omega) hm]
theorem sz_take {l : List N} {m i : Nat} (h : i < m) (hm : m ≤ l.length) : sz (l.take m) i = sz l i := by
  unfold sz; rw [szF_take hm (i + 1) (by omega)]
theorem parts_if {x : N} {i : Nat} (hm : may x i = true) (v : Nat → Nat) : ((parts x).map v).sum = (if x.1 ≤ 2 then 0 else v x.2.1.toNat) + (if x.1 ≤ 2 ∨ x.1 = 384 then 0 else v x.2.2.1.toNat) := by
  unfold parts
  by_cases h : x.1 ≤ 2
  · rw [if_pos h, if_pos h, if_pos (.inl h)]; rfl
  · by_cases h3 : x.1 = 384
    · rw [if_neg h, if_pos h3, if_neg h, if_pos (.inr h3)]; simp
    · rw [if_neg h, if_neg h3, if_neg h, if_neg (by omega)]; simp
theorem sz_step {l : List N} (hl : Row l) {k : Nat} (hk : k < l.length) : sz l k = min (1 + ((if l[k].1 ≤ 2 then 0 else sz l l[k].2.1.toNat) + (if l[k].1 ≤ 2 ∨ l[k].1 = 384 then 0 else sz l l[k].2.2.1.toNat))) 1125899906842624 := by
  have hm := hl.2 k hk
  rw [sz_row hl hk]
  unfold szN
  rw [nat0_eq hk] at hm ⊢
  rw [parts_if hm]
theorem inT_trans {l : List N} (hl : Row l) {k p : Nat} (hk : k < l.length) (hp : p ∈ parts (nat0 l k)) : ∀ (d i : Nat), l.length ≤ i + d → inT l p i = true → inT l k i = true := by
  intro d
  induction d with
  | zero =>
    intro i h hi
    rcases inT_iff.1 hi with h1 | ⟨q, h1, h2, _⟩
    · subst h1; exact inT_part hl hk (inT_self l k) hp
    · omega
  | succ d ih =>
    intro i h hi
    rcases inT_iff.1 hi with h1 | ⟨q, h1, h2, h3, h4⟩
    · subst h1; exact inT_part hl hk (inT_self l k) hp
    · exact inT_iff.2 (.inr ⟨q, h1, h2, ih q (by omega) h3, h4⟩)
theorem uses_bit (l : List N) (t w : Nat) : (uses l t).testBit w = true ↔ ∃ j, j < l.length ∧ inT l t j = true ∧ (nat0 l j).1 = 2 ∧ (nat0 l j).2.2.2.toNat = w := usesK_bit l t w l.length
theorem uses_word {l : List N} (hl : Row l) {k : Nat} (hk : k < l.length) (h : l[k].1 = 2) : uses l k = 2 ^ l[k].2.2.2.toNat := by
  apply Nat.eq_of_testBit_eq
  intro w
  rw [Bool.eq_iff_iff, uses_bit, Nat.testBit_two_pow, decide_eq_true_eq]
  constructor
  · rintro ⟨j, h1, h2, h3, h4⟩
    rcases inT_down hl hk (l.length - j) j (by omega) h2 with e | ⟨p, hp, _⟩
    · subst e; rw [nat0_eq hk] at h4; exact h4
    · rw [nat0_eq hk] at hp
      unfold parts at hp
      rw [if_pos (by omega)] at hp; cases hp
  · intro e
    exact ⟨k, hk, inT_self l k, by rw [nat0_eq hk]; exact h, by rw [nat0_eq hk]; exact e⟩
theorem uses_part {l : List N} (hl : Row l) {k : Nat} (hk : k < l.length) (h : l[k].1 ≠ 2) : uses l k = (if l[k].1 ≤ 2 then 0 else uses l l[k].2.1.toNat) ||| (if l[k].1 ≤ 2 ∨ l[k].1 = 384 then 0 else uses l l[k].2.2.1.toNat) := by
  apply Nat.eq_of_testBit_eq
  intro w
  have key : (uses l k).testBit w = true ↔ ∃ p ∈ parts l[k], (uses l p).testBit w = true := by
    rw [uses_bit]
    constructor
    · rintro ⟨j, h1, h2, h3, h4⟩
      rcases inT_down hl hk (l.length - j) j (by omega) h2 with e | ⟨p, hp, h5⟩
      · subst e; rw [nat0_eq hk] at h3; exact absurd h3 h
      · rw [nat0_eq hk] at hp
        exact ⟨p, hp, (uses_bit l p w).2 ⟨j, h1, h5, h3, h4⟩⟩
    · rintro ⟨p, hp, h5⟩
      obtain ⟨j, h1, h2, h3, h4⟩ := (uses_bit l p w).1 h5
      refine ⟨j, h1, ?_, h3, h4⟩
      exact inT_trans hl hk (by rw [nat0_eq hk]; exact hp) (l.length - j) j (by omega) h2
  have hm := hl.2 k hk
  rw [Bool.eq_iff_iff, key, Nat.testBit_or, Bool.or_eq_true]
  unfold parts
  by_cases h2 : l[k].1 ≤ 2
  · rw [if_pos h2, if_pos h2, if_pos (.inl h2)]; simp
  · by_cases h3 : l[k].1 = 384
    · rw [if_neg h2, if_pos h3, if_neg h2, if_pos (.inr h3)]; simp
    · rw [if_neg h2, if_neg h3, if_neg h2, if_neg (by omega)]; simp
end Go.Proofs.Ytmjeoknndnbglaa.TM
namespace Go.Proofs.Ytmjeoknndnbglaa.TB
open Go.ChangeShapes Go.WideShapes Go.ChangeAt Go.RowKit
open Go.Sort hiding Below
set_option linter.unusedVariables false
set_option maxRecDepth 100000

theorem LiesN.take {W : World} {A : Option Addr} {L : List TM.N} (h : LiesN W A L) (m : Nat) : LiesN W A (L.take m) := by
  rcases h with h | ⟨b, o, e, h1, h2⟩
  · exact .inl (by rw [h]; simp)
  · refine .inr ⟨b, o, e, h1, fun j hj => ?_⟩
    have hj' : j < L.length := by rw [List.length_take] at hj; omega
    rw [List.getElem_take]; exact h2 j hj'

set_option maxHeartbeats 3200000 in
theorem ctell32 (L : List TM.N) (hL : TM.Row L) (ok : ∀ x ∈ L, TM.okN x) (r : List Int) (hr : R.okR r) (C k : Nat) (hk : k < L.length) (w : World) (hC : RB.Rec w C r) :
    Calls Try.prog 49 #[.agg #[.int .i64 L[k].1, .int .i64 L[k].2.1, .int .i64 L[k].2.2.1, .int .u32 L[k].2.2.2], .int .u32 (if L[k].1 ≤ 2 then 0 else TM.val L r L[k].2.1.toNat), .int .u32 (if L[k].1 ≤ 2 ∨ L[k].1 = 384 then 0 else TM.val L r L[k].2.2.1.toNat), .pointer (some ⟨C, 0, none⟩)] w fun e w' => e = .returned (.int .u32 (TM.val L r k)) ∧ Below w.heap.size w w' := by
  have hv := TM.val_row hL r hk
  have hm := TM.may_ok (hL.2 k hk)
  have hokx := ok _ (List.getElem_mem hk)
  rw [TM.nat0_eq hk] at hv hm
  have hbd := fun j => TM.val_bd ok hr j (l := L)
  obtain ⟨x, hx⟩ : ∃ x, L[k] = x := ⟨_, rfl⟩
  rw [hx] at hv hm hokx ⊢
  clear hx
  obtain ⟨xo, xa, xb, xk⟩ := x
  obtain ⟨b0, b1, b2, b3⟩ := hokx
  simp only at hm b0 b1 b2 b3 ⊢
  have HB := hid (al w (.cells #[.int .i64 xo, .int .i64 xa, .int .i64 xb, .int .u32 xk] 56))
  unfold TM.evalN at hv
  simp only at hv
  by_cases h1 : xo = 1
  · subst h1
    rw [if_pos rfl] at hv
    rw [if_pos (by omega), if_pos (by omega), hv]
    clear hm hbd
    go_enter Try.func49, Try.ntmps49
    go_wp2
    go_ret
    exact ⟨rfl, HB.out⟩
  · rw [if_neg h1] at hv
    by_cases h2 : xo = 2
    · subst h2
      rw [if_pos rfl] at hv
      rw [if_pos (by omega), if_pos (by omega)]
      obtain ⟨d, rfl⟩ : ∃ d : Nat, xk = d := ⟨xk.toNat, by omega⟩
      have hd : d < 16 := by rcases hm with h | h | h | h <;> omega
      rw [Int.toNat_natCast] at hv
      have cr := (hC.alloc (.cells #[.int .i64 2, .int .i64 xa, .int .i64 xb, .int .u32 (d : Int)] 56)).cell d hd
      rw [show R.at_ r d = TM.val L r k from hv.symm] at cr
      have i3 : (d : Int) < 16 := by omega
      clear hm hbd hv h1
      go_enter Try.func49, Try.ntmps49
      go_wp2
      go_ret
      exact ⟨rfl, HB.out⟩
    · rw [if_neg h2] at hv
      have hx2 : ¬ xo ≤ 2 := by
        rcases hm with h | h | h | h
        · omega
        · omega
        · omega
        · have := TM.isA_12 h.1; omega
      rw [if_neg hx2]
      have d1 : (xo == 1) = false := beq_eq_false_iff_ne.2 h1
      have d2 : (xo == 2) = false := beq_eq_false_iff_ne.2 h2
      by_cases h3 : xo = 384
      · subst h3
        rw [if_pos rfl] at hv
        rw [if_pos (.inr rfl)]
        have HA := hid (fun W => WB.alu_any 128 (TM.val L r xa.toNat) 0 (hbd _).1 (hbd _).2 (by omega) W)
        rw [← hv] at HA
        clear hm hbd hv
        go_enter Try.func49, Try.ntmps49
        go_wp2_with (go_at_call 50; refine (HA.out _).mono ?_; rintro e w1 ⟨rfl, rfl⟩)
        go_ret
        exact ⟨rfl, HB.out⟩
      · rw [if_neg h3] at hv
        rw [if_neg (by omega)]
        have hA : TM.isA xo = true := by rcases hm with h | h | h | h <;> first | omega | exact h.1
        have hrg := TM.isA_12 hA
        have z : wrap64 (xo - 256) = xo - 256 := by unfold wrap64; omega
        have z2 : IntKind.i64.wrap (xo - 256) = xo - 256 := Go.IntWalk.i64_in _ (by omega)
        have hv2 : WM.val (xo - 256) (TM.val L r xa.toNat) (TM.val L r xb.toNat) = TM.val L r k := by
          rw [hv]
          generalize TM.val L r xb.toNat = vb
          generalize TM.val L r xa.toNat = va
          by_cases hok : WM.ok (xo - 256) vb = true
          · rw [if_pos hok]
          · rw [if_neg hok]
            have hi := TM.isA_iff.1 hA
            have : xo = 304 ∧ vb = 0 := by
              simp only [WM.ok, Bool.or_eq_true, beq_iff_eq, Bool.and_eq_true, bne_iff_ne] at hok
              omega
            obtain ⟨rfl, rfl⟩ := this
            rfl
        have HA := hid (fun W => WB.alu_any (xo - 256) (TM.val L r xa.toNat) (TM.val L r xb.toNat) (hbd _).1 (hbd _).2 (hbd _).1 W)
        rw [hv2] at HA
        clear hm hbd hv hv2 hA h1 h2 hx2 h3
        go_enter Try.func49, Try.ntmps49
        go_wp2_with (go_at_call 50; first | rw [z] | skip; refine (HA.out _).mono ?_; rintro e w1 ⟨rfl, rfl⟩)
        go_ret
        exact ⟨rfl, HB.out⟩

set_option maxHeartbeats 3200000 in
theorem ctell16 (L : List TM.N) (hL : TM.Row L) (ok : ∀ x ∈ L, TM.okN x) (k : Nat) (hk : k < L.length) (w : World) :
    Calls Try.prog 37 #[.agg #[.int .i64 L[k].1, .int .i64 L[k].2.1, .int .i64 L[k].2.2.1, .int .u32 L[k].2.2.2], .int .u16 (if L[k].1 ≤ 2 then 0 else ((TM.uses L L[k].2.1.toNat : Nat) : Int)), .int .u16 (if L[k].1 ≤ 2 ∨ L[k].1 = 384 then 0 else ((TM.uses L L[k].2.2.1.toNat : Nat) : Int))] w fun e w' => e = .returned (.int .u16 ((TM.uses L k : Nat) : Int)) ∧ Below w.heap.size w w' := by
  have hm := TM.may_ok (hL.2 k hk)
  have hokx := ok _ (List.getElem_mem hk)
  rw [TM.nat0_eq hk] at hm
  have hub : ∀ t, TM.uses L t < 65536 := fun t => TM.usesK_lt hL t L.length (Nat.le_refl _)
  by_cases h2 : L[k].1 = 2
  · have hu := TM.uses_word hL hk h2
    rw [if_pos (by omega), if_pos (by omega)]
    obtain ⟨x, hx⟩ : ∃ x, L[k] = x := ⟨_, rfl⟩
    rw [hx] at hu hm hokx h2 ⊢
    clear hx
    obtain ⟨xo, xa, xb, xk⟩ := x
    obtain ⟨b0, b1, b2, b3⟩ := hokx
    simp only at hm b0 b1 b2 b3 h2 hu ⊢
    subst h2
    obtain ⟨d, rfl⟩ : ∃ d : Nat, xk = d := ⟨xk.toNat, by omega⟩
    have hd2 : d < 16 := by rcases hm with h | h | h | h <;> omega
    rw [Int.toNat_natCast] at hu
    have hpl : TM.uses L k < 65536 := hub k
    obtain ⟨p2, hp2⟩ : ∃ p2 : Nat, TM.uses L k = p2 := ⟨_, rfl⟩
    rw [hp2] at hu hpl ⊢
    have hwv : IntKind.u16.wrap (2 ^ d) = (p2 : Int) := by
      rw [IntKind.wrap_u16, show (2 : Int) ^ d = (p2 : Int) by rw [hu]; simp]
      omega
    have HB := hid (al w (.cells #[.int .i64 2, .int .i64 xa, .int .i64 xb, .int .u32 (d : Int)] 56))
    clear hm hu hp2 hub
    go_enter Try.func37, Try.ntmps37
    go_wp2
    go_ret
    exact ⟨rfl, HB.out⟩
  · have hu := TM.uses_part hL hk h2
    obtain ⟨x, hx⟩ : ∃ x, L[k] = x := ⟨_, rfl⟩
    rw [hx] at hu h2 ⊢
    clear hx hm hokx
    obtain ⟨xo, xa, xb, xk⟩ := x
    simp only at h2 hu ⊢
    obtain ⟨u, hue⟩ : ∃ u : Nat, (if xo ≤ 2 then 0 else TM.uses L xa.toNat) = u := ⟨_, rfl⟩
    obtain ⟨v, hve⟩ : ∃ v : Nat, (if xo ≤ 2 ∨ xo = 384 then 0 else TM.uses L xb.toNat) = v := ⟨_, rfl⟩
    have e1 : (if xo ≤ 2 then 0 else ((TM.uses L xa.toNat : Nat) : Int)) = (u : Int) := by rw [← hue]; split <;> simp
    have e2 : (if xo ≤ 2 ∨ xo = 384 then 0 else ((TM.uses L xb.toNat : Nat) : Int)) = (v : Int) := by rw [← hve]; split <;> simp
    rw [hue, hve] at hu
    have hu1 : u < 65536 := by rw [← hue]; split <;> first | omega | exact hub _
    have hv1 : v < 65536 := by rw [← hve]; split <;> first | omega | exact hub _
    rw [e1, e2]
    have hor : bits .or .u16 (u : Int) (v : Int) = ((TM.uses L k : Nat) : Int) := by
      rw [u16_or _ _ (by omega) (by omega) (by omega) (by omega), hu]; simp
    have HB := hid (al w (.cells #[.int .i64 xo, .int .i64 xa, .int .i64 xb, .int .u32 xk] 56))
    have d2 : (xo == 2) = false := beq_eq_false_iff_ne.2 h2
    clear hu hue hve e1 e2 hub h2
    go_enter Try.func37, Try.ntmps37
    go_wp2
    go_ret
    exact ⟨by first | rfl | (rw [← hor]; rfl), HB.out⟩

set_option maxHeartbeats 3200000 in
theorem ctell64 (L : List TM.N) (hL : TM.Row L) (k : Nat) (hk : k < L.length) (w : World) :
    Calls Try.prog 40 #[.agg #[.int .i64 L[k].1, .int .i64 L[k].2.1, .int .i64 L[k].2.2.1, .int .u32 L[k].2.2.2], .int .u64 (if L[k].1 ≤ 2 then 0 else ((TM.sz L L[k].2.1.toNat : Nat) : Int)), .int .u64 (if L[k].1 ≤ 2 ∨ L[k].1 = 384 then 0 else ((TM.sz L L[k].2.2.1.toNat : Nat) : Int))] w fun e w' => e = .returned (.int .u64 ((TM.sz L k : Nat) : Int)) ∧ Below w.heap.size w w' := by
  have hm := TM.may_ok (hL.2 k hk)
  rw [TM.nat0_eq hk] at hm
  have hs := TM.sz_step hL hk
  obtain ⟨u, hue⟩ : ∃ u : Nat, (if L[k].1 ≤ 2 then 0 else TM.sz L L[k].2.1.toNat) = u := ⟨_, rfl⟩
  obtain ⟨v, hve⟩ : ∃ v : Nat, (if L[k].1 ≤ 2 ∨ L[k].1 = 384 then 0 else TM.sz L L[k].2.2.1.toNat) = v := ⟨_, rfl⟩
  have hb1 : u ≤ 1125899906842624 := by
    rw [← hue]; split
    · omega
    · exact TM.sz_le L _ hL (by
        rcases hm with h | h | h | h <;> omega)
  have hb2 : v ≤ 1125899906842624 := by
    rw [← hve]; split
    · omega
    · exact TM.sz_le L _ hL (by
        rcases hm with h | h | h | h <;> omega)
  have e1 : (if L[k].1 ≤ 2 then 0 else ((TM.sz L L[k].2.1.toNat : Nat) : Int)) = (u : Int) := by rw [← hue]; split <;> simp
  have e2 : (if L[k].1 ≤ 2 ∨ L[k].1 = 384 then 0 else ((TM.sz L L[k].2.2.1.toNat : Nat) : Int)) = (v : Int) := by rw [← hve]; split <;> simp
  rw [hue, hve] at hs
  rw [e1, e2]
  obtain ⟨z, hz⟩ : ∃ z, TM.sz L k = z := ⟨_, rfl⟩
  rw [hz] at hs ⊢
  obtain ⟨x, hx⟩ : ∃ x, L[k] = x := ⟨_, rfl⟩
  rw [hx]
  clear hx hue hve e1 e2 hm
  obtain ⟨xo, xa, xb, xk⟩ := x
  simp only
  have hw1 : IntKind.u64.wrap (1 + (u : Int)) = 1 + (u : Int) := by rw [IntKind.wrap_u64]; omega
  have hw2 : IntKind.u64.wrap (1 + (u : Int) + (v : Int)) = 1 + (u : Int) + (v : Int) := by rw [IntKind.wrap_u64]; omega
  have hmn : (if (1125899906842624 : Int) ≤ 1 + (u : Int) + (v : Int) then (1125899906842624 : Int) else 1 + (u : Int) + (v : Int)) = (z : Int) := by
    rw [hs]; split <;> omega
  have hmn2 : (if 1 + (u : Int) + (v : Int) < 1125899906842624 then 1 + (u : Int) + (v : Int) else 1125899906842624) = (z : Int) := by
    rw [hs]; split <;> omega
  have HB := hid (al w (.cells #[.int .i64 xo, .int .i64 xa, .int .i64 xb, .int .u32 xk] 56))
  clear hs hz
  go_enter Try.func40, Try.ntmps40
  go_wp2
  go_ret
  exact ⟨by first | rfl | (rw [← hmn]; rfl) | (rw [← hmn2]; rfl), HB.out⟩
end Go.Proofs.Ytmjeoknndnbglaa.TB
