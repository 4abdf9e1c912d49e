/-
  The program's upward of layer 11, at three types of what is told, as walks over the Go text.
-/
import Derived.Test.YtmjeoknndnbglaaTerCodA
import Derived.Test.YtmjeoknndnbglaaTerRefA
namespace Go.Proofs.Ytmjeoknndnbglaa.TB
open Go.ChangeShapes Go.WideShapes Go.ChangeAt Go.RowKit
open Go.Sort hiding Below
set_option linter.unusedVariables false
set_option maxRecDepth 100000

theorem infoH : (Try.prog.info? 40).map (fun i => (i.zero, i.size, i.bytes)) = some (some (.int .u16 0), 1, 2) := by kernel_rfl

set_option maxHeartbeats 6400000 in
theorem cup32 (A : Option Addr) (n cap : Nat) (L : List TM.N) (hLn : L.length = n) (hL : TM.Row L) (C : Nat) (V : Nat → Int) (w : World) (hl : LiesN w A L)
    (HT : ∀ k (hk : k < L.length) W, Below w.heap.size w W → Calls Try.prog 49 #[.agg #[.int .i64 L[k].1, .int .i64 L[k].2.1, .int .i64 L[k].2.2.1, .int .u32 L[k].2.2.2], .int .u32 (if L[k].1 ≤ 2 then 0 else V L[k].2.1.toNat), .int .u32 (if L[k].1 ≤ 2 ∨ L[k].1 = 384 then 0 else V L[k].2.2.1.toNat), .pointer (some ⟨C, 0, none⟩)] W fun e w' => e = .returned (.int .u32 (V k)) ∧ Below W.heap.size W w') :
    Calls Try.prog 48 #[.slice A n cap, .func (.func 49) #[] #[.pointer (some ⟨C, 0, none⟩)]] w fun e w' => ∃ g, e = .returned (.slice (some ⟨g, 0, none⟩) n n) ∧ Row w' g n (fun j => .int .u32 (V j)) ∧ Below w.heap.size w w' := by
  have hn := hL.1
  rw [hLn] at hn
  obtain ⟨i0, hi, hz0, hz1, hz2⟩ := info_parts infou
  have HH := hid (And.intro hLn (And.intro hL (And.intro hl HT)))
  clear hLn hL hl HT
  go_enter Try.func48, Try.ntmps48
  go_wp2_with (at_make; refine wpList_make_full _ rfl _ _ 32 rfl w.heap.size 23 i0 (.int .u32 0) 1 Try.underlying32 hi hz0 hz1 .i64 .i64 n n n rfl rfl rfl rfl ?c1 ?c2 (Nat.le_refl _) ?_)
  case c1 => rw [hz2]; omega
  case c2 => unfold maxLen; omega
  intro wm hown hgrow
  have HB0 := hid (show Below w.heap.size w wm from (Below.refl _ _).grown hgrow (Nat.le_refl _) (by intro k hk; cases hk))
  have HN := hid (show Row wm w.heap.size n (fun _ => .int .u32 0) from Row.of_own hown (fun j hj => made_get (.int .u32 0) n j hj) (hown.lt _ rfl).2)
  clear hown hgrow
  go_wp2
  go_loopw [15] (fun i wr => ∃ k : Nat, k ≤ n ∧ i = .int .i64 k ∧ Hid (Row wr w.heap.size n (fun j => .int .u32 (if j < k then V j else 0)) ∧ Below w.heap.size w wr)) (fun i _ => n - (intOf i).toNat)
  case atStart => exact ⟨0, Nat.zero_le _, rfl, HN.out.congr (fun j hj => by rw [if_neg (by omega)]), HB0.out⟩
  case round =>
    clear HN HB0
    obtain ⟨k, hk, rfl, HR⟩ := hrel
    by_cases hlt : k < n
    · have i2 : (k : Int) < (n : Int) := by omega
      have hkl : k < L.length := by rw [HH.out.1]; exact hlt
      obtain ⟨b, o, rfl, hly⟩ := HH.out.2.2.1.ly (by omega)
      have hm := HH.out.2.1.2 k hkl
      have h0x := TM.nat0_eq hkl
      rw [h0x] at hm
      obtain ⟨q0, q1, q2, q3⟩ := (hly.below HR.out.2).2 k hkl
      have HT := HH.out.2.2.2 k hkl
      have HG := hid (show w.heap.size < wr.heap.size from HR.out.1.lt)
      obtain ⟨x, hx⟩ : ∃ x, L[k] = x := ⟨_, rfl⟩
      rw [hx] at q0 q1 q2 q3 h0x hm HT
      clear hx hly h0x
      obtain ⟨xo, xa, xb, xk⟩ := x
      simp only at q0 q1 q2 q3 HT
      have hmo := TM.may_ok hm
      simp only at hmo
      clear hm
      have HA := hid (al wr (.cells #[.int .i64 xo, .int .i64 xa, .int .i64 xb, .int .u32 xk] 56))
      have HW := hid (fun w1 (hb : Below (wr.alloc (.cells #[.int .i64 xo, .int .i64 xa, .int .i64 xb, .int .u32 xk] 56)).heap.size (wr.alloc (.cells #[.int .i64 xo, .int .i64 xa, .int .i64 xb, .int .u32 xk] 56)) w1) => (show NAt w1 wr.heap.size (xo, xa, xb, xk) from (NAt.new wr xo xa xb xk).below hb))
      have HRW := hid (fun W' (hb : Below wr.heap.size wr W') => (show Row W' w.heap.size n (fun j => .int .u32 (if j < k then V j else 0)) from HR.out.1.below hb))
      have HBW := hid (fun W' (hb : Below wr.heap.size wr W') => (show Below w.heap.size w W' from HR.out.2.trans (hb.mono HR.out.2.size)))
      have HNX := hid (fun W' (hb : Row W' w.heap.size n (fun j => .int .u32 (if j < k then V j else 0))) => (show Row (W'.setCell ⟨w.heap.size, k, none⟩ (.int .u32 (V k))) w.heap.size n (fun j => .int .u32 (if j < k + 1 then V j else 0)) from (hb.set k hlt _).congr (fun j hj => by
        by_cases e : j = k
        · subst e; rw [if_pos rfl, if_pos (by omega)]
        · rw [if_neg e]
          by_cases e2 : j < k
          · rw [if_pos e2, if_pos (by omega)]
          · rw [if_neg e2, if_neg (by omega)])))
      clear HR
      by_cases h2 : xo ≤ 2
      · have HP := hid (fun W => cparts xo xa xb xk 0 (by rw [if_pos (by rcases hmo with h | h | h | h <;> first | omega | (have := TM.isA_12 h.1; omega))]) W)
        rw [if_pos h2, if_pos (.inl h2)] at HT
        have HTk := hid HT
        clear HT hmo h2
        go_wp2_with fail
        refine (HP.out _).mono ?_
        rintro e w1 ⟨rfl, hb⟩
        have HB1 := hid (HA.out.trans (hb.mono HA.out.size))
        obtain ⟨c0, c1, c2, c3, _⟩ := (HW.out _ hb).cells
        have HN1 := hid (HW.out _ hb)
        clear hb HA HW q0 q1 q2 q3
        go_wp2_with fail
        refine (HP.out _).mono ?_
        rintro e w2 ⟨rfl, hb⟩
        have HB2 := hid (HB1.out.trans (hb.mono HB1.out.size))
        clear c0 c1 c2 c3
        obtain ⟨c0, c1, c2, c3, _⟩ := (HN1.out.below hb).cells
        clear hb HN1 HB1
        go_wp2_with fail
        refine (HTk.out _ (HBW.out _ HB2.out)).mono ?_
        rintro e w3 ⟨rfl, hb⟩
        have HB3 := hid (HB2.out.trans (hb.mono HB2.out.size))
        have HR3 := hid (HRW.out _ HB3.out)
        have f3 := HR3.out.froz k hlt
        have v3 := HR3.out.cell k hlt
        simp only [Nat.lt_irrefl, if_false] at v3
        have HZ := hid (And.intro (HNX.out _ HR3.out) (Below.setCell (HBW.out _ HB3.out) (p := ⟨w.heap.size, k, none⟩) (Nat.le_refl _) (.int .u32 (V k))))
        clear hb c0 c1 c2 c3 HB2 HP HTk HRW HBW HNX HR3
        go_wp2
        go_roundw
        case rel => exact ⟨k + 1, by omega, by go_num, HZ.out⟩
        case measure => simp [intOf]; omega
      · obtain ⟨a', rfl⟩ : ∃ a' : Nat, xa = a' := ⟨xa.toNat, by rcases hmo with h | h | h | h <;> omega⟩
        have hak : a' < k := by rcases hmo with h | h | h | h <;> omega
        have han : (a' : Int) < (n : Int) := by omega
        by_cases h3 : xo = 384
        · subst h3
          have HP := hid (fun W => cparts 384 (a' : Int) xb xk 1 rfl W)
          rw [if_neg h2, if_pos (.inr rfl), Int.toNat_natCast] at HT
          have HTk := hid HT
          clear HT hmo h2
          go_wp2_with fail
          refine (HP.out _).mono ?_
          rintro e w1 ⟨rfl, hb⟩
          have HB1 := hid (HA.out.trans (hb.mono HA.out.size))
          obtain ⟨c0, c1, c2, c3, _⟩ := (HW.out _ hb).cells
          have HN1 := hid (HW.out _ hb)
          have r1 := (HRW.out _ HB1.out).cell a' (by omega)
          simp only [if_pos hak] at r1
          clear hb HA HW q0 q1 q2 q3
          go_wp2_with fail
          refine (HP.out _).mono ?_
          rintro e w2 ⟨rfl, hb⟩
          have HB2 := hid (HB1.out.trans (hb.mono HB1.out.size))
          clear c0 c1 c2 c3 r1
          obtain ⟨c0, c1, c2, c3, _⟩ := (HN1.out.below hb).cells
          clear hb HN1 HB1
          go_wp2_with fail
          refine (HTk.out _ (HBW.out _ HB2.out)).mono ?_
          rintro e w3 ⟨rfl, hb⟩
          have HB3 := hid (HB2.out.trans (hb.mono HB2.out.size))
          have HR3 := hid (HRW.out _ HB3.out)
          have f3 := HR3.out.froz k hlt
          have v3 := HR3.out.cell k hlt
          simp only [Nat.lt_irrefl, if_false] at v3
          have HZ := hid (And.intro (HNX.out _ HR3.out) (Below.setCell (HBW.out _ HB3.out) (p := ⟨w.heap.size, k, none⟩) (Nat.le_refl _) (.int .u32 (V k))))
          clear hb c0 c1 c2 c3 HB2 HP HTk HRW HBW HNX HR3
          go_wp2
          go_roundw
          case rel => exact ⟨k + 1, by omega, by go_num, HZ.out⟩
          case measure => simp [intOf]; omega
        · have HP := hid (fun W => cparts xo (a' : Int) xb xk 2 (by rw [if_neg (by omega), if_neg h3]) W)
          obtain ⟨b', rfl⟩ : ∃ b' : Nat, xb = b' := ⟨xb.toNat, by rcases hmo with h | h | h | h <;> omega⟩
          have hbk : b' < k := by rcases hmo with h | h | h | h <;> omega
          have hbn : (b' : Int) < (n : Int) := by omega
          rw [if_neg h2, if_neg (by omega), Int.toNat_natCast, Int.toNat_natCast] at HT
          have HTk := hid HT
          clear HT hmo h2 h3
          go_wp2_with fail
          refine (HP.out _).mono ?_
          rintro e w1 ⟨rfl, hb⟩
          have HB1 := hid (HA.out.trans (hb.mono HA.out.size))
          obtain ⟨c0, c1, c2, c3, _⟩ := (HW.out _ hb).cells
          have HN1 := hid (HW.out _ hb)
          have r1 := (HRW.out _ HB1.out).cell a' (by omega)
          simp only [if_pos hak] at r1
          clear hb HA HW q0 q1 q2 q3
          go_wp2_with fail
          refine (HP.out _).mono ?_
          rintro e w2 ⟨rfl, hb⟩
          have HB2 := hid (HB1.out.trans (hb.mono HB1.out.size))
          clear c0 c1 c2 c3 r1
          obtain ⟨c0, c1, c2, c3, _⟩ := (HN1.out.below hb).cells
          have r2 := (HRW.out _ HB2.out).cell b' (by omega)
          simp only [if_pos hbk] at r2
          clear hb HN1 HB1
          go_wp2_with fail
          refine (HTk.out _ (HBW.out _ HB2.out)).mono ?_
          rintro e w3 ⟨rfl, hb⟩
          have HB3 := hid (HB2.out.trans (hb.mono HB2.out.size))
          have HR3 := hid (HRW.out _ HB3.out)
          have f3 := HR3.out.froz k hlt
          have v3 := HR3.out.cell k hlt
          simp only [Nat.lt_irrefl, if_false] at v3
          have HZ := hid (And.intro (HNX.out _ HR3.out) (Below.setCell (HBW.out _ HB3.out) (p := ⟨w.heap.size, k, none⟩) (Nat.le_refl _) (.int .u32 (V k))))
          clear hb c0 c1 c2 c3 r2 HB2 HP HTk HRW HBW HNX HR3
          go_wp2
          go_roundw
          case rel => exact ⟨k + 1, by omega, by go_num, HZ.out⟩
          case measure => simp [intOf]; omega
    · obtain rfl : k = n := by omega
      have HZ := hid (And.intro (HR.out.1.congr (U := fun j => .int .u32 (V j)) (fun j hj => by rw [if_pos hj])) HR.out.2)
      clear HR
      go_wp2
      go_ret
      exact ⟨_, rfl, HZ.out⟩

set_option maxHeartbeats 6400000 in
theorem cup16 (A : Option Addr) (n cap : Nat) (L : List TM.N) (hLn : L.length = n) (hL : TM.Row L) (V : Nat → Int) (w : World) (hl : LiesN w A L)
    (HT : ∀ k (hk : k < L.length) W, Below w.heap.size w W → Calls Try.prog 37 #[.agg #[.int .i64 L[k].1, .int .i64 L[k].2.1, .int .i64 L[k].2.2.1, .int .u32 L[k].2.2.2], .int .u16 (if L[k].1 ≤ 2 then 0 else V L[k].2.1.toNat), .int .u16 (if L[k].1 ≤ 2 ∨ L[k].1 = 384 then 0 else V L[k].2.2.1.toNat)] W fun e w' => e = .returned (.int .u16 (V k)) ∧ Below W.heap.size W w') :
    Calls Try.prog 36 #[.slice A n cap, .func (.func 37) #[] #[]] w fun e w' => ∃ g, e = .returned (.slice (some ⟨g, 0, none⟩) n n) ∧ Row w' g n (fun j => .int .u16 (V j)) ∧ Below w.heap.size w w' := by
  have hn := hL.1
  rw [hLn] at hn
  obtain ⟨i0, hi, hz0, hz1, hz2⟩ := info_parts infoH
  have HH := hid (And.intro hLn (And.intro hL (And.intro hl HT)))
  clear hLn hL hl HT
  go_enter Try.func36, Try.ntmps36
  go_wp2_with (at_make; refine wpList_make_full _ rfl _ _ 75 rfl w.heap.size 40 i0 (.int .u16 0) 1 Try.underlying75 hi hz0 hz1 .i64 .i64 n n n rfl rfl rfl rfl ?c1 ?c2 (Nat.le_refl _) ?_)
  case c1 => rw [hz2]; omega
  case c2 => unfold maxLen; omega
  intro wm hown hgrow
  have HB0 := hid (show Below w.heap.size w wm from (Below.refl _ _).grown hgrow (Nat.le_refl _) (by intro k hk; cases hk))
  have HN := hid (show Row wm w.heap.size n (fun _ => .int .u16 0) from Row.of_own hown (fun j hj => made_get (.int .u16 0) n j hj) (hown.lt _ rfl).2)
  clear hown hgrow
  go_wp2
  go_loopw [15] (fun i wr => ∃ k : Nat, k ≤ n ∧ i = .int .i64 k ∧ Hid (Row wr w.heap.size n (fun j => .int .u16 (if j < k then V j else 0)) ∧ Below w.heap.size w wr)) (fun i _ => n - (intOf i).toNat)
  case atStart => exact ⟨0, Nat.zero_le _, rfl, HN.out.congr (fun j hj => by rw [if_neg (by omega)]), HB0.out⟩
  case round =>
    clear HN HB0
    obtain ⟨k, hk, rfl, HR⟩ := hrel
    by_cases hlt : k < n
    · have i2 : (k : Int) < (n : Int) := by omega
      have hkl : k < L.length := by rw [HH.out.1]; exact hlt
      obtain ⟨b, o, rfl, hly⟩ := HH.out.2.2.1.ly (by omega)
      have hm := HH.out.2.1.2 k hkl
      have h0x := TM.nat0_eq hkl
      rw [h0x] at hm
      obtain ⟨q0, q1, q2, q3⟩ := (hly.below HR.out.2).2 k hkl
      have HT := HH.out.2.2.2 k hkl
      have HG := hid (show w.heap.size < wr.heap.size from HR.out.1.lt)
      obtain ⟨x, hx⟩ : ∃ x, L[k] = x := ⟨_, rfl⟩
      rw [hx] at q0 q1 q2 q3 h0x hm HT
      clear hx hly h0x
      obtain ⟨xo, xa, xb, xk⟩ := x
      simp only at q0 q1 q2 q3 HT
      have hmo := TM.may_ok hm
      simp only at hmo
      clear hm
      have HA := hid (al wr (.cells #[.int .i64 xo, .int .i64 xa, .int .i64 xb, .int .u32 xk] 56))
      have HW := hid (fun w1 (hb : Below (wr.alloc (.cells #[.int .i64 xo, .int .i64 xa, .int .i64 xb, .int .u32 xk] 56)).heap.size (wr.alloc (.cells #[.int .i64 xo, .int .i64 xa, .int .i64 xb, .int .u32 xk] 56)) w1) => (show NAt w1 wr.heap.size (xo, xa, xb, xk) from (NAt.new wr xo xa xb xk).below hb))
      have HRW := hid (fun W' (hb : Below wr.heap.size wr W') => (show Row W' w.heap.size n (fun j => .int .u16 (if j < k then V j else 0)) from HR.out.1.below hb))
      have HBW := hid (fun W' (hb : Below wr.heap.size wr W') => (show Below w.heap.size w W' from HR.out.2.trans (hb.mono HR.out.2.size)))
      have HNX := hid (fun W' (hb : Row W' w.heap.size n (fun j => .int .u16 (if j < k then V j else 0))) => (show Row (W'.setCell ⟨w.heap.size, k, none⟩ (.int .u16 (V k))) w.heap.size n (fun j => .int .u16 (if j < k + 1 then V j else 0)) from (hb.set k hlt _).congr (fun j hj => by
        by_cases e : j = k
        · subst e; rw [if_pos rfl, if_pos (by omega)]
        · rw [if_neg e]
          by_cases e2 : j < k
          · rw [if_pos e2, if_pos (by omega)]
          · rw [if_neg e2, if_neg (by omega)])))
      clear HR
      by_cases h2 : xo ≤ 2
      · have HP := hid (fun W => cparts xo xa xb xk 0 (by rw [if_pos (by rcases hmo with h | h | h | h <;> first | omega | (have := TM.isA_12 h.1; omega))]) W)
        rw [if_pos h2, if_pos (.inl h2)] at HT
        have HTk := hid HT
        clear HT hmo h2
        go_wp2_with fail
        refine (HP.out _).mono ?_
        rintro e w1 ⟨rfl, hb⟩
        have HB1 := hid (HA.out.trans (hb.mono HA.out.size))
        obtain ⟨c0, c1, c2, c3, _⟩ := (HW.out _ hb).cells
        have HN1 := hid (HW.out _ hb)
        clear hb HA HW q0 q1 q2 q3
        go_wp2_with fail
        refine (HP.out _).mono ?_
        rintro e w2 ⟨rfl, hb⟩
        have HB2 := hid (HB1.out.trans (hb.mono HB1.out.size))
        clear c0 c1 c2 c3
        obtain ⟨c0, c1, c2, c3, _⟩ := (HN1.out.below hb).cells
        clear hb HN1 HB1
        go_wp2_with fail
        refine (HTk.out _ (HBW.out _ HB2.out)).mono ?_
        rintro e w3 ⟨rfl, hb⟩
        have HB3 := hid (HB2.out.trans (hb.mono HB2.out.size))
        have HR3 := hid (HRW.out _ HB3.out)
        have f3 := HR3.out.froz k hlt
        have v3 := HR3.out.cell k hlt
        simp only [Nat.lt_irrefl, if_false] at v3
        have HZ := hid (And.intro (HNX.out _ HR3.out) (Below.setCell (HBW.out _ HB3.out) (p := ⟨w.heap.size, k, none⟩) (Nat.le_refl _) (.int .u16 (V k))))
        clear hb c0 c1 c2 c3 HB2 HP HTk HRW HBW HNX HR3
        go_wp2
        go_roundw
        case rel => exact ⟨k + 1, by omega, by go_num, HZ.out⟩
        case measure => simp [intOf]; omega
      · obtain ⟨a', rfl⟩ : ∃ a' : Nat, xa = a' := ⟨xa.toNat, by rcases hmo with h | h | h | h <;> omega⟩
        have hak : a' < k := by rcases hmo with h | h | h | h <;> omega
        have han : (a' : Int) < (n : Int) := by omega
        by_cases h3 : xo = 384
        · subst h3
          have HP := hid (fun W => cparts 384 (a' : Int) xb xk 1 rfl W)
          rw [if_neg h2, if_pos (.inr rfl), Int.toNat_natCast] at HT
          have HTk := hid HT
          clear HT hmo h2
          go_wp2_with fail
          refine (HP.out _).mono ?_
          rintro e w1 ⟨rfl, hb⟩
          have HB1 := hid (HA.out.trans (hb.mono HA.out.size))
          obtain ⟨c0, c1, c2, c3, _⟩ := (HW.out _ hb).cells
          have HN1 := hid (HW.out _ hb)
          have r1 := (HRW.out _ HB1.out).cell a' (by omega)
          simp only [if_pos hak] at r1
          clear hb HA HW q0 q1 q2 q3
          go_wp2_with fail
          refine (HP.out _).mono ?_
          rintro e w2 ⟨rfl, hb⟩
          have HB2 := hid (HB1.out.trans (hb.mono HB1.out.size))
          clear c0 c1 c2 c3 r1
          obtain ⟨c0, c1, c2, c3, _⟩ := (HN1.out.below hb).cells
          clear hb HN1 HB1
          go_wp2_with fail
          refine (HTk.out _ (HBW.out _ HB2.out)).mono ?_
          rintro e w3 ⟨rfl, hb⟩
          have HB3 := hid (HB2.out.trans (hb.mono HB2.out.size))
          have HR3 := hid (HRW.out _ HB3.out)
          have f3 := HR3.out.froz k hlt
          have v3 := HR3.out.cell k hlt
          simp only [Nat.lt_irrefl, if_false] at v3
          have HZ := hid (And.intro (HNX.out _ HR3.out) (Below.setCell (HBW.out _ HB3.out) (p := ⟨w.heap.size, k, none⟩) (Nat.le_refl _) (.int .u16 (V k))))
          clear hb c0 c1 c2 c3 HB2 HP HTk HRW HBW HNX HR3
          go_wp2
          go_roundw
          case rel => exact ⟨k + 1, by omega, by go_num, HZ.out⟩
          case measure => simp [intOf]; omega
        · have HP := hid (fun W => cparts xo (a' : Int) xb xk 2 (by rw [if_neg (by omega), if_neg h3]) W)
          obtain ⟨b', rfl⟩ : ∃ b' : Nat, xb = b' := ⟨xb.toNat, by rcases hmo with h | h | h | h <;> omega⟩
          have hbk : b' < k := by rcases hmo with h | h | h | h <;> omega
          have hbn : (b' : Int) < (n : Int) := by omega
          rw [if_neg h2, if_neg (by omega), Int.toNat_natCast, Int.toNat_natCast] at HT
          have HTk := hid HT
          clear HT hmo h2 h3
          go_wp2_with fail
          refine (HP.out _).mono ?_
          rintro e w1 ⟨rfl, hb⟩
          have HB1 := hid (HA.out.trans (hb.mono HA.out.size))
          obtain ⟨c0, c1, c2, c3, _⟩ := (HW.out _ hb).cells
          have HN1 := hid (HW.out _ hb)
          have r1 := (HRW.out _ HB1.out).cell a' (by omega)
          simp only [if_pos hak] at r1
          clear hb HA HW q0 q1 q2 q3
          go_wp2_with fail
          refine (HP.out _).mono ?_
          rintro e w2 ⟨rfl, hb⟩
          have HB2 := hid (HB1.out.trans (hb.mono HB1.out.size))
          clear c0 c1 c2 c3 r1
          obtain ⟨c0, c1, c2, c3, _⟩ := (HN1.out.below hb).cells
          have r2 := (HRW.out _ HB2.out).cell b' (by omega)
          simp only [if_pos hbk] at r2
          clear hb HN1 HB1
          go_wp2_with fail
          refine (HTk.out _ (HBW.out _ HB2.out)).mono ?_
          rintro e w3 ⟨rfl, hb⟩
          have HB3 := hid (HB2.out.trans (hb.mono HB2.out.size))
          have HR3 := hid (HRW.out _ HB3.out)
          have f3 := HR3.out.froz k hlt
          have v3 := HR3.out.cell k hlt
          simp only [Nat.lt_irrefl, if_false] at v3
          have HZ := hid (And.intro (HNX.out _ HR3.out) (Below.setCell (HBW.out _ HB3.out) (p := ⟨w.heap.size, k, none⟩) (Nat.le_refl _) (.int .u16 (V k))))
          clear hb c0 c1 c2 c3 r2 HB2 HP HTk HRW HBW HNX HR3
          go_wp2
          go_roundw
          case rel => exact ⟨k + 1, by omega, by go_num, HZ.out⟩
          case measure => simp [intOf]; omega
    · obtain rfl : k = n := by omega
      have HZ := hid (And.intro (HR.out.1.congr (U := fun j => .int .u16 (V j)) (fun j hj => by rw [if_pos hj])) HR.out.2)
      clear HR
      go_wp2
      go_ret
      exact ⟨_, rfl, HZ.out⟩

set_option maxHeartbeats 6400000 in
theorem cup64 (A : Option Addr) (n cap : Nat) (L : List TM.N) (hLn : L.length = n) (hL : TM.Row L) (V : Nat → Int) (w : World) (hl : LiesN w A L)
    (HT : ∀ k (hk : k < L.length) W, Below w.heap.size w W → Calls Try.prog 40 #[.agg #[.int .i64 L[k].1, .int .i64 L[k].2.1, .int .i64 L[k].2.2.1, .int .u32 L[k].2.2.2], .int .u64 (if L[k].1 ≤ 2 then 0 else V L[k].2.1.toNat), .int .u64 (if L[k].1 ≤ 2 ∨ L[k].1 = 384 then 0 else V L[k].2.2.1.toNat)] W fun e w' => e = .returned (.int .u64 (V k)) ∧ Below W.heap.size W w') :
    Calls Try.prog 39 #[.slice A n cap, .func (.func 40) #[] #[]] w fun e w' => ∃ g, e = .returned (.slice (some ⟨g, 0, none⟩) n n) ∧ Row w' g n (fun j => .int .u64 (V j)) ∧ Below w.heap.size w w' := by
  have hn := hL.1
  rw [hLn] at hn
  obtain ⟨i0, hi, hz0, hz1, hz2⟩ := info_parts infoU
  have HH := hid (And.intro hLn (And.intro hL (And.intro hl HT)))
  clear hLn hL hl HT
  go_enter Try.func39, Try.ntmps39
  go_wp2_with (at_make; refine wpList_make_full _ rfl _ _ 45 rfl w.heap.size 47 i0 (.int .u64 0) 1 Try.underlying45 hi hz0 hz1 .i64 .i64 n n n rfl rfl rfl rfl ?c1 ?c2 (Nat.le_refl _) ?_)
  case c1 => rw [hz2]; omega
  case c2 => unfold maxLen; omega
  intro wm hown hgrow
  have HB0 := hid (show Below w.heap.size w wm from (Below.refl _ _).grown hgrow (Nat.le_refl _) (by intro k hk; cases hk))
  have HN := hid (show Row wm w.heap.size n (fun _ => .int .u64 0) from Row.of_own hown (fun j hj => made_get (.int .u64 0) n j hj) (hown.lt _ rfl).2)
  clear hown hgrow
  go_wp2
  go_loopw [15] (fun i wr => ∃ k : Nat, k ≤ n ∧ i = .int .i64 k ∧ Hid (Row wr w.heap.size n (fun j => .int .u64 (if j < k then V j else 0)) ∧ Below w.heap.size w wr)) (fun i _ => n - (intOf i).toNat)
  case atStart => exact ⟨0, Nat.zero_le _, rfl, HN.out.congr (fun j hj => by rw [if_neg (by omega)]), HB0.out⟩
  case round =>
    clear HN HB0
    obtain ⟨k, hk, rfl, HR⟩ := hrel
    by_cases hlt : k < n
    · have i2 : (k : Int) < (n : Int) := by omega
      have hkl : k < L.length := by rw [HH.out.1]; exact hlt
      obtain ⟨b, o, rfl, hly⟩ := HH.out.2.2.1.ly (by omega)
      have hm := HH.out.2.1.2 k hkl
      have h0x := TM.nat0_eq hkl
      rw [h0x] at hm
      obtain ⟨q0, q1, q2, q3⟩ := (hly.below HR.out.2).2 k hkl
      have HT := HH.out.2.2.2 k hkl
      have HG := hid (show w.heap.size < wr.heap.size from HR.out.1.lt)
      obtain ⟨x, hx⟩ : ∃ x, L[k] = x := ⟨_, rfl⟩
      rw [hx] at q0 q1 q2 q3 h0x hm HT
      clear hx hly h0x
      obtain ⟨xo, xa, xb, xk⟩ := x
      simp only at q0 q1 q2 q3 HT
      have hmo := TM.may_ok hm
      simp only at hmo
      clear hm
      have HA := hid (al wr (.cells #[.int .i64 xo, .int .i64 xa, .int .i64 xb, .int .u32 xk] 56))
      have HW := hid (fun w1 (hb : Below (wr.alloc (.cells #[.int .i64 xo, .int .i64 xa, .int .i64 xb, .int .u32 xk] 56)).heap.size (wr.alloc (.cells #[.int .i64 xo, .int .i64 xa, .int .i64 xb, .int .u32 xk] 56)) w1) => (show NAt w1 wr.heap.size (xo, xa, xb, xk) from (NAt.new wr xo xa xb xk).below hb))
      have HRW := hid (fun W' (hb : Below wr.heap.size wr W') => (show Row W' w.heap.size n (fun j => .int .u64 (if j < k then V j else 0)) from HR.out.1.below hb))
      have HBW := hid (fun W' (hb : Below wr.heap.size wr W') => (show Below w.heap.size w W' from HR.out.2.trans (hb.mono HR.out.2.size)))
      have HNX := hid (fun W' (hb : Row W' w.heap.size n (fun j => .int .u64 (if j < k then V j else 0))) => (show Row (W'.setCell ⟨w.heap.size, k, none⟩ (.int .u64 (V k))) w.heap.size n (fun j => .int .u64 (if j < k + 1 then V j else 0)) from (hb.set k hlt _).congr (fun j hj => by
        by_cases e : j = k
        · subst e; rw [if_pos rfl, if_pos (by omega)]
        · rw [if_neg e]
          by_cases e2 : j < k
          · rw [if_pos e2, if_pos (by omega)]
          · rw [if_neg e2, if_neg (by omega)])))
      clear HR
      by_cases h2 : xo ≤ 2
      · have HP := hid (fun W => cparts xo xa xb xk 0 (by rw [if_pos (by rcases hmo with h | h | h | h <;> first | omega | (have := TM.isA_12 h.1; omega))]) W)
        rw [if_pos h2, if_pos (.inl h2)] at HT
        have HTk := hid HT
        clear HT hmo h2
        go_wp2_with fail
        refine (HP.out _).mono ?_
        rintro e w1 ⟨rfl, hb⟩
        have HB1 := hid (HA.out.trans (hb.mono HA.out.size))
        obtain ⟨c0, c1, c2, c3, _⟩ := (HW.out _ hb).cells
        have HN1 := hid (HW.out _ hb)
        clear hb HA HW q0 q1 q2 q3
        go_wp2_with fail
        refine (HP.out _).mono ?_
        rintro e w2 ⟨rfl, hb⟩
        have HB2 := hid (HB1.out.trans (hb.mono HB1.out.size))
        clear c0 c1 c2 c3
        obtain ⟨c0, c1, c2, c3, _⟩ := (HN1.out.below hb).cells
        clear hb HN1 HB1
        go_wp2_with fail
        refine (HTk.out _ (HBW.out _ HB2.out)).mono ?_
        rintro e w3 ⟨rfl, hb⟩
        have HB3 := hid (HB2.out.trans (hb.mono HB2.out.size))
        have HR3 := hid (HRW.out _ HB3.out)
        have f3 := HR3.out.froz k hlt
        have v3 := HR3.out.cell k hlt
        simp only [Nat.lt_irrefl, if_false] at v3
        have HZ := hid (And.intro (HNX.out _ HR3.out) (Below.setCell (HBW.out _ HB3.out) (p := ⟨w.heap.size, k, none⟩) (Nat.le_refl _) (.int .u64 (V k))))
        clear hb c0 c1 c2 c3 HB2 HP HTk HRW HBW HNX HR3
        go_wp2
        go_roundw
        case rel => exact ⟨k + 1, by omega, by go_num, HZ.out⟩
        case measure => simp [intOf]; omega
      · obtain ⟨a', rfl⟩ : ∃ a' : Nat, xa = a' := ⟨xa.toNat, by rcases hmo with h | h | h | h <;> omega⟩
        have hak : a' < k := by rcases hmo with h | h | h | h <;> omega
        have han : (a' : Int) < (n : Int) := by omega
        by_cases h3 : xo = 384
        · subst h3
          have HP := hid (fun W => cparts 384 (a' : Int) xb xk 1 rfl W)
          rw [if_neg h2, if_pos (.inr rfl), Int.toNat_natCast] at HT
          have HTk := hid HT
          clear HT hmo h2
          go_wp2_with fail
          refine (HP.out _).mono ?_
          rintro e w1 ⟨rfl, hb⟩
          have HB1 := hid (HA.out.trans (hb.mono HA.out.size))
          obtain ⟨c0, c1, c2, c3, _⟩ := (HW.out _ hb).cells
          have HN1 := hid (HW.out _ hb)
          have r1 := (HRW.out _ HB1.out).cell a' (by omega)
          simp only [if_pos hak] at r1
          clear hb HA HW q0 q1 q2 q3
          go_wp2_with fail
          refine (HP.out _).mono ?_
          rintro e w2 ⟨rfl, hb⟩
          have HB2 := hid (HB1.out.trans (hb.mono HB1.out.size))
          clear c0 c1 c2 c3 r1
          obtain ⟨c0, c1, c2, c3, _⟩ := (HN1.out.below hb).cells
          clear hb HN1 HB1
          go_wp2_with fail
          refine (HTk.out _ (HBW.out _ HB2.out)).mono ?_
          rintro e w3 ⟨rfl, hb⟩
          have HB3 := hid (HB2.out.trans (hb.mono HB2.out.size))
          have HR3 := hid (HRW.out _ HB3.out)
          have f3 := HR3.out.froz k hlt
          have v3 := HR3.out.cell k hlt
          simp only [Nat.lt_irrefl, if_false] at v3
          have HZ := hid (And.intro (HNX.out _ HR3.out) (Below.setCell (HBW.out _ HB3.out) (p := ⟨w.heap.size, k, none⟩) (Nat.le_refl _) (.int .u64 (V k))))
          clear hb c0 c1 c2 c3 HB2 HP HTk HRW HBW HNX HR3
          go_wp2
          go_roundw
          case rel => exact ⟨k + 1, by omega, by go_num, HZ.out⟩
          case measure => simp [intOf]; omega
        · have HP := hid (fun W => cparts xo (a' : Int) xb xk 2 (by rw [if_neg (by omega), if_neg h3]) W)
          obtain ⟨b', rfl⟩ : ∃ b' : Nat, xb = b' := ⟨xb.toNat, by rcases hmo with h | h | h | h <;> omega⟩
          have hbk : b' < k := by rcases hmo with h | h | h | h <;> omega
          have hbn : (b' : Int) < (n : Int) := by omega
          rw [if_neg h2, if_neg (by omega), Int.toNat_natCast, Int.toNat_natCast] at HT
          have HTk := hid HT
          clear HT hmo h2 h3
          go_wp2_with fail
          refine (HP.out _).mono ?_
          rintro e w1 ⟨rfl, hb⟩
          have HB1 := hid (HA.out.trans (hb.mono HA.out.size))
          obtain ⟨c0, c1, c2, c3, _⟩ := (HW.out _ hb).cells
          have HN1 := hid (HW.out _ hb)
          have r1 := (HRW.out _ HB1.out).cell a' (by omega)
          simp only [if_pos hak] at r1
          clear hb HA HW q0 q1 q2 q3
          go_wp2_with fail
          refine (HP.out _).mono ?_
          rintro e w2 ⟨rfl, hb⟩
          have HB2 := hid (HB1.out.trans (hb.mono HB1.out.size))
          clear c0 c1 c2 c3 r1
          obtain ⟨c0, c1, c2, c3, _⟩ := (HN1.out.below hb).cells
          have r2 := (HRW.out _ HB2.out).cell b' (by omega)
          simp only [if_pos hbk] at r2
          clear hb HN1 HB1
          go_wp2_with fail
          refine (HTk.out _ (HBW.out _ HB2.out)).mono ?_
          rintro e w3 ⟨rfl, hb⟩
          have HB3 := hid (HB2.out.trans (hb.mono HB2.out.size))
          have HR3 := hid (HRW.out _ HB3.out)
          have f3 := HR3.out.froz k hlt
          have v3 := HR3.out.cell k hlt
          simp only [Nat.lt_irrefl, if_false] at v3
          have HZ := hid (And.intro (HNX.out _ HR3.out) (Below.setCell (HBW.out _ HB3.out) (p := ⟨w.heap.size, k, none⟩) (Nat.le_refl _) (.int .u64 (V k))))
          clear hb c0 c1 c2 c3 r2 HB2 HP HTk HRW HBW HNX HR3
          go_wp2
          go_roundw
          case rel => exact ⟨k + 1, by omega, by go_num, HZ.out⟩
          case measure => simp [intOf]; omega
    · obtain rfl : k = n := by omega
      have HZ := hid (And.intro (HR.out.1.congr (U := fun j => .int .u64 (V j)) (fun j hj => by rw [if_pos hj])) HR.out.2)
      clear HR
      go_wp2
      go_ret
      exact ⟨_, rfl, HZ.out⟩
end Go.Proofs.Ytmjeoknndnbglaa.TB
