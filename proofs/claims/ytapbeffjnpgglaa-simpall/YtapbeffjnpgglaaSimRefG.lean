/-
  The reference's Normal of layer 12, as a walk over the Go text.
-/
import Derived.Test.YtapbeffjnpgglaaSimRefF
import Derived.Test.YtapbeffjnpgglaaSimLawP
namespace Go.Proofs.Ytapbeffjnpgglaa.TB
open Go.ChangeShapes Go.WideShapes Go.ChangeAt Go.RowKit
open Go.Sort hiding Below
set_option linter.unusedVariables false
set_option maxRecDepth 100000

set_option maxHeartbeats 6400000 in
set_option maxRecDepth 1000000 in
theorem rnormal (A : Option Addr) (n cap : Nat) (l : List TM.N) (hln : l.length = n) (hn : n ≤ 4000) (ok : ∀ x ∈ l, TM.okN x) (q : Bool) (hq : q = true ↔ TM.Norm l) (w : World) (hl : LiesN w A l) :
    Calls Try.prog 22 #[.slice A n cap] w fun e w' => e = .returned (.bool q) ∧ Below w.heap.size w w' := by
  obtain ⟨rb, hrb⟩ : ∃ rb, TM.rowB l = rb := ⟨_, rfl⟩
  have HRt := hid (rrow_any A n cap l hln (by omega) ok w hl rb hrb)
  cases rb with
  | false =>
    obtain rfl : q = false := by
      cases q with
      | false => rfl
      | true => have := TM.row_iff.2 (hq.1 rfl).1; rw [hrb] at this; cases this
    clear hln ok hl hrb hq
    go_enter Try.func22, Try.ntmps22
    go_wp2_with fail
    refine HRt.out.mono ?_
    rintro e w1 ⟨rfl, hb⟩
    have HB := hid hb
    clear hb HRt
    go_wp2
    go_ret
    exact ⟨rfl, HB.out⟩
  | true =>
    have hr := TM.row_iff.1 hrb
    have HAl := hid (fun W (h : LiesN W A l) => rall A n cap l hln hn hr ok W h)
    have HIn := hid (fun base m0 c0 a0 P (hP : TM.Row P) (hPo : TM.Once P) (okP : ∀ x ∈ P, TM.okN x) (hPn : P.length + n ≤ 65536) W (h : LiesN W A l) (hb : base ≤ W.heap.size) (hlb : 0 < n → ∀ B, A = some B → B.block < base) (hO : OwnN W base a0 m0 c0 P) => rinto_any base m0 c0 a0 P A n cap l hln hr ok hP hPo okP hPn W h hb hlb hO)
    have HLt := hid (show 0 < n → ∀ B, A = some B → B.block < w.heap.size from fun h0 B hB => by
      obtain ⟨b, o, rfl, h⟩ := hl.ly (by omega)
      injection hB with hB; subst hB; exact h.1)
    have HPl := hid (fun (P : List TM.N) (pc : Nat → Nat) (h : TM.AllK l n P pc) (j : Nat) (hj : j < n) => (show pc j = TM.plc P l j ↔ TM.anewT (TM.tr l j) = TM.tr l j from by
      have h1 := h.at_ j hj
      have := TM.plc_of_tr hr ok h.row h.once h.ok (by have := h.len; omega) (i := j) (j := pc j) (by omega) h1.1
      rw [h1.2] at this
      constructor
      · intro e; exact (this.1 e.symm).symm
      · intro e; exact (this.2 e.symm).symm))
    have HQ := hid (show q = true ↔ ∀ i, i < n → TM.anewT (TM.tr l i) = TM.tr l i from by
      rw [hq]
      unfold TM.Norm
      rw [hln]
      exact ⟨fun h => h.2, fun h => ⟨hr, h⟩⟩)
    have HL := hid hl
    clear hln ok hl hrb hq hr
    go_enter Try.func22, Try.ntmps22
    go_wp2_with fail
    refine HRt.out.mono ?_
    rintro e w1 ⟨rfl, hb⟩
    have HB := hid hb
    clear hb HRt
    go_wp2_with fail
    refine (HAl.out _ (HL.out.below HB.out)).mono ?_
    rintro e w2 ⟨a, m, c, P, pc, rfl, hO, hR, hb, hblk, hall⟩
    have HB2 := stp HB hb
    have HP := hid (And.intro hO (And.intro hR (And.intro hblk hall)))
    have hml : m ≤ 4 * n := by rw [← hO.len]; exact hall.len
    clear hb hO hR hblk hall HAl
    have hsz : w1.heap.size ≤ w2.heap.size := Nat.le_of_lt HP.out.2.1.lt
    go_wp2_with fail
    refine (HIn.out w1.heap.size m c a P HP.out.2.2.2.row HP.out.2.2.2.once HP.out.2.2.2.ok (by have := HP.out.1.len; omega) _ (HL.out.below HB2.out) hsz (fun h0 B hB => Nat.lt_of_lt_of_le (HLt.out h0 B hB) HB.out.size) HP.out.1).mono ?_
    rintro e w3 ⟨a', m', c', rfl, hO', hR', hg, _⟩
    have HF := hid (show Row w3 w1.heap.size n (fun j => .int .i64 ((pc j : Nat) : Int)) ∧ Row w3 w2.heap.size n (fun j => .int .i64 ((TM.plc P l j : Nat) : Int)) ∧ Below w.heap.size w w3 from
      ⟨HP.out.2.1.grown hg (fun e => by have := HP.out.2.2.1 _ e.symm; omega), hR', HB2.out.grown hg (HB2.out.size) (fun k hk => by
        obtain ⟨A', hA', e⟩ := blk_at hk
        have := (HP.out.1.at A' hA').1
        have := HB.out.size
        omega)⟩)
    clear hO' hR' hg HIn
    go_wp2
    go_loopw [7] (fun iv wr => ∃ k d : Nat, k ≤ n ∧ iv = .int .i64 k ∧ Hid (∀ j, j < k → pc j = TM.plc P l j) ∧ wr = w3.drewN d) (fun iv _ => n - (intOf iv).toNat)
    case atStart => exact ⟨0, 0, Nat.zero_le _, rfl, fun j hj => absurd hj (Nat.not_lt_zero _), rfl⟩
    case round =>
      obtain ⟨k, d, hk, rfl, HK, rfl⟩ := hrel
      by_cases hlt : k < n
      · have i2 : (k : Int) < (n : Int) := by omega
        have c1 := HF.out.1.cell k hlt
        have c2 := HF.out.2.1.cell k hlt
        have hpl := HPl.out P pc HP.out.2.2.2 k hlt
        obtain ⟨x, hx⟩ : ∃ x, pc k = x := ⟨_, rfl⟩
        obtain ⟨y, hy⟩ : ∃ y, TM.plc P l k = y := ⟨_, rfl⟩
        rw [hx] at c1
        rw [hy] at c2
        rw [hx, hy] at hpl
        by_cases e : x = y
        · have HK2 := hid (show ∀ j, j < k + 1 → pc j = TM.plc P l j from fun j hj => by
            by_cases e2 : j = k
            · subst e2; rw [hx, hy, e]
            · exact HK.out j (by omega))
          have d1 : ((x : Int) != (y : Int)) = false := by rw [e]; simp
          clear hx hy hpl e HK
          go_wp2
          go_quiet (fail)
          go_wp2
          go_roundw
          case rel => exact ⟨k + 1, _, by omega, by go_num, HK2.out, rfl⟩
          case measure => simp [intOf]; omega
        · have d1 : ((x : Int) != (y : Int)) = true := by simp; omega
          obtain rfl : q = false := by
            cases hqq : q with
            | false => rfl
            | true => exact absurd (hpl.2 (HQ.out.1 hqq k hlt)) e
          clear hx hy hpl e HK
          go_wp2
          go_quiet (fail)
          go_wp2
          go_ret
          exact ⟨rfl, bdrew (bdrew HF.out.2.2 _) _⟩
      · obtain rfl : k = n := by omega
        obtain rfl : q = true := HQ.out.2 fun i hi => (HPl.out P pc HP.out.2.2.2 i hi).1 (HK.out i hi)
        go_wp2
        go_ret
        exact ⟨rfl, bdrew HF.out.2.2 _⟩
end Go.Proofs.Ytapbeffjnpgglaa.TB
