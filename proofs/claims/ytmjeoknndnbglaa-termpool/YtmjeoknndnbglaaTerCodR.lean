/-
  The program's upward over a pool, of layer 11, as a walk over the Go text.
-/
import Derived.Test.YtmjeoknndnbglaaTerCodQ
import Derived.Test.YtmjeoknndnbglaaTerCodC
namespace Go.Proofs.Ytmjeoknndnbglaa.TB
open Go.ChangeShapes Go.WideShapes Go.ChangeAt Go.RowKit
open Go.Sort hiding Below
set_option linter.unusedVariables false
set_option maxRecDepth 100000

theorem LyN.fr {W W' : World} {b o : Nat} {l : List TM.N} {F : Nat → Prop} (h : LyN W b o l) (hg : Fr W W' F) (hb : ¬ F b) : LyN W' b o l := by
  have e := hg.block b h.1 hb
  refine ⟨Nat.lt_of_lt_of_le h.1 hg.size, fun j hj => ?_⟩
  obtain ⟨h0, h1, h2, h3⟩ := h.2 j hj
  exact ⟨(World.cell?_of_block e).trans h0, (World.cell?_of_block e).trans h1, (World.cell?_of_block e).trans h2, (World.cell?_of_block e).trans h3⟩
theorem One.fr {W W' : World} {b : Nat} {v : Value} {T : TypeId} {F : Nat → Prop} (h : One W b v T) (hg : Fr W W' F) (hb : ¬ F b) : One W' b v T := by
  have e := hg.block b h.lt hb
  unfold One at *
  rw [e]; exact h
theorem Fr.trans' {A B C : World} {F G : Nat → Prop} (h : Fr A B F) (h' : Fr B C G) (hG : ∀ b, G b → F b ∨ A.heap.size ≤ b) : Fr A C F :=
  ⟨h'.os.trans h.os, h'.tape.trans h.tape, h'.output.trans h.output, Nat.le_trans h.size h'.size, fun b hb hF => (h'.block b (Nat.lt_of_lt_of_le hb h.size) (fun hg => by
    rcases hG b hg with e | e
    · exact hF e
    · omega)).trans (h.block b hb hF)⟩
/-- what lies where, behind k rounds of upward over a pool -/
structure UpSt (w W : World) (g n k C : Nat) (v : Value) (L : List TM.N) (F0 F : Nat → Prop) : Prop where
  row : Row W g n (fun j => .int .i64 (if j < k then ((TM.plc [] L j : Nat) : Int) else 0))
  box : One W C v 58
  pl : Pl W F v (TM.pl [] L k)
  off : ∀ b, F b → b ≠ g ∧ b ≠ C
  new : ∀ b, F b → F0 b ∨ w.heap.size ≤ b
  fr : Fr w W F0
  cl : C < w.heap.size
theorem UpSt.below {w W W' : World} {n k C : Nat} {v : Value} {L : List TM.N} {F0 F : Nat → Prop} (h : UpSt w W w.heap.size n k C v L F0 F) (hb : Below W.heap.size W W') : UpSt w W' w.heap.size n k C v L F0 F :=
  ⟨h.row.below hb, h.box.below hb, cpool.below h.pl hb, h.off, h.new, h.fr.below2 hb, h.cl⟩
theorem UpSt.told {w W W' : World} {n k C : Nat} {v : Value} {L : List TM.N} {F0 F F' : Nat → Prop} (h : UpSt w W w.heap.size n k C v L F0 F) (h1 : Pl W' F' v (TM.pl [] L (k + 1))) (h2 : Fr W W' F) (h3 : ∀ b, F' b → F b ∨ W.heap.size ≤ b) :
    Row W' w.heap.size n (fun j => .int .i64 (if j < k then ((TM.plc [] L j : Nat) : Int) else 0)) ∧ (k < n → UpSt w (W'.setCell ⟨w.heap.size, k, none⟩ (.int .i64 ((TM.plc [] L k : Nat) : Int))) w.heap.size n (k + 1) C v L F0 F') := by
  have hr := h.row.fr h2 (fun hf => (h.off _ hf).1 rfl)
  have hgl := h.row.lt
  have hcl := h.cl
  have hoff : ∀ b, F' b → b ≠ w.heap.size ∧ b ≠ C := fun b hb => by
    rcases h3 b hb with e | e
    · exact h.off b e
    · have := h.fr.size; exact ⟨by omega, by omega⟩
  refine ⟨hr, fun hk => ⟨(hr.set k hk _).congr (fun j hj => ?_), (h.box.fr h2 (fun hf => (h.off _ hf).2 rfl)).off (by omega), cpool.off h1 _ _ _ (fun hf => (hoff _ hf).1 rfl), hoff, fun b hb => ?_, (h.fr.trans' h2 h.new).grown (setG _ _ _ _) (fun b hb => by injection hb with hb; exact .inr (by omega)), hcl⟩⟩
  · by_cases e : j = k
    · subst e; rw [if_pos rfl, if_pos (by omega)]
    · rw [if_neg e]
      by_cases e2 : j < k
      · rw [if_pos e2, if_pos (by omega)]
      · rw [if_neg e2, if_neg (by omega)]
  · rcases h3 b hb with e | e
    · exact h.new b e
    · have := h.fr.size; exact .inr (by omega)

set_option maxHeartbeats 6400000 in
theorem cupI (A : Option Addr) (n cap : Nat) (L : List TM.N) (hLn : L.length = n) (hL : TM.Row L) (ok : ∀ x ∈ L, TM.okN x) (C : Nat) (v : Value) (F0 : Nat → Prop) (w : World) (hl : LiesN w A L) (hA : ∀ a, A = some a → ¬ F0 a.block) (hPl : Pl w F0 v []) (hC : One w C v 58) (hC0 : ¬ F0 C) :
    Calls Try.prog 43 #[.slice A n cap, .func (.func 44) #[] #[.pointer (some ⟨C, 0, none⟩)]] w fun e w' => ∃ g, e = .returned (.slice (some ⟨g, 0, none⟩) n n) ∧ Row w' g n (fun j => .int .i64 ((TM.plc [] L j : Nat) : Int)) ∧ Fr w w' F0 := by
  have hn := hL.1
  rw [hLn] at hn
  obtain ⟨i0, hi, hz0, hz1, hz2⟩ := info_parts infoi
  have HH := hid (And.intro hLn (And.intro hL (And.intro hl (And.intro hA hC0))))
  have HT := hid (fun k hk F W (h1 : Pl W F v (TM.pl [] L k)) (h2 : One W C v 58) => calike1 L hL ok k hk C v F W h1 h2)
  have HP0 := hid (And.intro hPl hC)
  have hCl := hC.lt
  have HF0 := hid (fun b (hb : F0 b) => cpool.lt w F0 v [] hPl b hb)
  clear hLn hL hl hA hC0 ok hPl hC
  go_enter Try.func43, Try.ntmps43
  go_wp2_with (at_make; refine wpList_make_full _ rfl _ _ 52 rfl w.heap.size 3 i0 (.int .i64 0) 1 Try.underlying52 hi hz0 hz1 .i64 .i64 n n n rfl rfl rfl rfl ?c1 ?c2 (Nat.le_refl _) ?_)
  case c1 => rw [hz2]; omega
  case c2 => unfold maxLen; omega
  intro wm hown hgrow
  have HB0 := hid (show Below w.heap.size w wm from (Below.refl _ _).grown hgrow (Nat.le_refl _) (by intro k hk; cases hk))
  have HN := hid (show Row wm w.heap.size n (fun _ => .int .i64 0) from Row.of_own hown (fun j hj => made_get (.int .i64 0) n j hj) (hown.lt _ rfl).2)
  clear hown hgrow
  go_wp2
  go_loopw [15] (fun i wr => ∃ k : Nat, k ≤ n ∧ i = .int .i64 k ∧ Hid (∃ F, UpSt w wr w.heap.size n k C v L F0 F)) (fun i _ => n - (intOf i).toNat)
  case atStart => exact ⟨0, Nat.zero_le _, rfl, F0, HN.out.congr (fun j hj => by rw [if_neg (by omega)]), HP0.out.2.far HB0.out hCl, cpool.below HP0.out.1 HB0.out, fun b hb => ⟨by have := HF0.out b hb; omega, fun e => HH.out.2.2.2.2 (by rw [← e]; exact hb)⟩, fun b hb => .inl hb, Fr.of_below HB0.out, hCl⟩
  case round =>
    clear HN HB0
    obtain ⟨k, hk, rfl, HR⟩ := hrel
    obtain ⟨F, HR⟩ := HR.out
    replace HR := hid HR
    by_cases hlt : k < n
    · have i2 : (k : Int) < (n : Int) := by omega
      have hkl : k < L.length := by rw [HH.out.1]; exact hlt
      obtain ⟨b, o, rfl, hly⟩ := HH.out.2.2.1.ly (by omega)
      have hnb := HH.out.2.2.2.1 _ rfl
      have hm := HH.out.2.1.2 k hkl
      have h0x := TM.nat0_eq hkl
      rw [h0x] at hm
      obtain ⟨q0, q1, q2, q3⟩ := (hly.fr HR.out.fr hnb).2 k hkl
      have HT := HT.out k hkl F
      have HG := hid (show w.heap.size < wr.heap.size from HR.out.row.lt)
      obtain ⟨x, hx⟩ : ∃ x, L[k] = x := ⟨_, rfl⟩
      rw [hx] at q0 q1 q2 q3 h0x hm HT
      clear hx hly h0x
      obtain ⟨xo, xa, xb, xk⟩ := x
      simp only at q0 q1 q2 q3 HT
      have hmo := TM.may_ok hm
      simp only at hmo
      clear hm
      have HA := hid (al wr (.cells #[.int .i64 xo, .int .i64 xa, .int .i64 xb, .int .u32 xk] 56))
      have HW := hid (fun w1 (hb : Below (wr.alloc (.cells #[.int .i64 xo, .int .i64 xa, .int .i64 xb, .int .u32 xk] 56)).heap.size (wr.alloc (.cells #[.int .i64 xo, .int .i64 xa, .int .i64 xb, .int .u32 xk] 56)) w1) => (show NAt w1 wr.heap.size (xo, xa, xb, xk) from (NAt.new wr xo xa xb xk).below hb))
      have HUW := hid (fun W' (hb : Below wr.heap.size wr W') => HR.out.below hb)
      clear HR
      by_cases h2 : xo ≤ 2
      · have HP := hid (fun W => cparts xo xa xb xk 0 (by rw [if_pos (by rcases hmo with h | h | h | h <;> first | omega | (have := TM.isA_12 h.1; omega))]) W)
        rw [if_pos h2, if_pos (.inl h2)] at HT
        have HTk := hid HT
        clear HT hmo h2
        go_wp2_with fail
        refine (HP.out _).mono ?_
        rintro e w1 ⟨rfl, hb⟩
        have HB1 := hid (HA.out.trans (hb.mono HA.out.size))
        obtain ⟨c0, c1, c2, c3, _⟩ := (HW.out _ hb).cells
        have HN1 := hid (HW.out _ hb)
        clear hb HA HW q0 q1 q2 q3
        go_wp2_with fail
        refine (HP.out _).mono ?_
        rintro e w2 ⟨rfl, hb⟩
        have HB2 := hid (HB1.out.trans (hb.mono HB1.out.size))
        clear c0 c1 c2 c3
        obtain ⟨c0, c1, c2, c3, _⟩ := (HN1.out.below hb).cells
        clear hb HN1 HB1
        go_wp2_with fail
        have HU2 := hid (HUW.out _ HB2.out)
        refine (HTk.out _ HU2.out.pl HU2.out.box).mono ?_
        rintro e w3 ⟨F', rfl, h1, h2, h3⟩
        have HU3 := hid (HU2.out.told h1 h2 h3)
        have f3 := HU3.out.1.froz k hlt
        have v3 := HU3.out.1.cell k hlt
        simp only [Nat.lt_irrefl, if_false] at v3
        have HZ := hid (HU3.out.2 hlt)
        clear h1 h2 h3 HU2 HU3 c0 c1 c2 c3 HB2 HP HTk
        go_wp2
        go_roundw
        case rel => exact ⟨k + 1, by omega, by go_num, F', HZ.out⟩
        case measure => simp [intOf]; omega
      · obtain ⟨a', rfl⟩ : ∃ a' : Nat, xa = a' := ⟨xa.toNat, by rcases hmo with h | h | h | h <;> omega⟩
        have hak : a' < k := by rcases hmo with h | h | h | h <;> omega
        have han : (a' : Int) < (n : Int) := by omega
        by_cases h3 : xo = 384
        · subst h3
          have HP := hid (fun W => cparts 384 (a' : Int) xb xk 1 rfl W)
          rw [if_neg h2, if_pos (.inr rfl), Int.toNat_natCast] at HT
          have HTk := hid HT
          clear HT hmo h2
          go_wp2_with fail
          refine (HP.out _).mono ?_
          rintro e w1 ⟨rfl, hb⟩
          have HB1 := hid (HA.out.trans (hb.mono HA.out.size))
          obtain ⟨c0, c1, c2, c3, _⟩ := (HW.out _ hb).cells
          have HN1 := hid (HW.out _ hb)
          have r1 := (HUW.out _ HB1.out).row.cell a' (by omega)
          simp only [if_pos hak] at r1
          clear hb HA HW q0 q1 q2 q3
          go_wp2_with fail
          refine (HP.out _).mono ?_
          rintro e w2 ⟨rfl, hb⟩
          have HB2 := hid (HB1.out.trans (hb.mono HB1.out.size))
          clear c0 c1 c2 c3 r1
          obtain ⟨c0, c1, c2, c3, _⟩ := (HN1.out.below hb).cells
          clear hb HN1 HB1
          go_wp2_with fail
          have HU2 := hid (HUW.out _ HB2.out)
          refine (HTk.out _ HU2.out.pl HU2.out.box).mono ?_
          rintro e w3 ⟨F', rfl, h1, h2, h3⟩
          have HU3 := hid (HU2.out.told h1 h2 h3)
          have f3 := HU3.out.1.froz k hlt
          have v3 := HU3.out.1.cell k hlt
          simp only [Nat.lt_irrefl, if_false] at v3
          have HZ := hid (HU3.out.2 hlt)
          clear h1 h2 h3 HU2 HU3 c0 c1 c2 c3 HB2 HP HTk
          go_wp2
          go_roundw
          case rel => exact ⟨k + 1, by omega, by go_num, F', HZ.out⟩
          case measure => simp [intOf]; omega
        · have HP := hid (fun W => cparts xo (a' : Int) xb xk 2 (by rw [if_neg (by omega), if_neg h3]) W)
          obtain ⟨b', rfl⟩ : ∃ b' : Nat, xb = b' := ⟨xb.toNat, by rcases hmo with h | h | h | h <;> omega⟩
          have hbk : b' < k := by rcases hmo with h | h | h | h <;> omega
          have hbn : (b' : Int) < (n : Int) := by omega
          rw [if_neg h2, if_neg (by omega), Int.toNat_natCast, Int.toNat_natCast] at HT
          have HTk := hid HT
          clear HT hmo h2 h3
          go_wp2_with fail
          refine (HP.out _).mono ?_
          rintro e w1 ⟨rfl, hb⟩
          have HB1 := hid (HA.out.trans (hb.mono HA.out.size))
          obtain ⟨c0, c1, c2, c3, _⟩ := (HW.out _ hb).cells
          have HN1 := hid (HW.out _ hb)
          have r1 := (HUW.out _ HB1.out).row.cell a' (by omega)
          simp only [if_pos hak] at r1
          clear hb HA HW q0 q1 q2 q3
          go_wp2_with fail
          refine (HP.out _).mono ?_
          rintro e w2 ⟨rfl, hb⟩
          have HB2 := hid (HB1.out.trans (hb.mono HB1.out.size))
          clear c0 c1 c2 c3 r1
          obtain ⟨c0, c1, c2, c3, _⟩ := (HN1.out.below hb).cells
          have r2 := (HUW.out _ HB2.out).row.cell b' (by omega)
          simp only [if_pos hbk] at r2
          clear hb HN1 HB1
          go_wp2_with fail
          have HU2 := hid (HUW.out _ HB2.out)
          refine (HTk.out _ HU2.out.pl HU2.out.box).mono ?_
          rintro e w3 ⟨F', rfl, h1, h2, h3⟩
          have HU3 := hid (HU2.out.told h1 h2 h3)
          have f3 := HU3.out.1.froz k hlt
          have v3 := HU3.out.1.cell k hlt
          simp only [Nat.lt_irrefl, if_false] at v3
          have HZ := hid (HU3.out.2 hlt)
          clear h1 h2 h3 HU2 HU3 c0 c1 c2 c3 r2 HB2 HP HTk
          go_wp2
          go_roundw
          case rel => exact ⟨k + 1, by omega, by go_num, F', HZ.out⟩
          case measure => simp [intOf]; omega
    · obtain rfl : k = n := by omega
      have HZ := hid (And.intro (HR.out.row.congr (U := fun j => .int .i64 ((TM.plc [] L j : Nat) : Int)) (fun j hj => by rw [if_pos hj])) HR.out.fr)
      clear HR
      go_wp2
      go_ret
      exact ⟨_, rfl, HZ.out⟩
end Go.Proofs.Ytmjeoknndnbglaa.TB
