/-
  The walk of the statement TermSize, over what the program's own functions answer.
-/
import Derived.Test.YtmjeoknndnbglaaTerLawV
import Derived.Test.YtmjeoknndnbglaaTerRefC
namespace Go.Proofs.Ytmjeoknndnbglaa.TB
open Go.ChangeShapes Go.WideShapes Go.ChangeAt Go.RowKit
open Go.Sort hiding Below
set_option linter.unusedVariables false
set_option maxRecDepth 100000

def UsOk : Prop := ∀ (A : Option Addr) (n cap : Nat) (L : List TM.N) (i : Int), L.length = n → n ≤ 9223372036854775807 → n ≤ cap → (∀ x ∈ L, TM.okN x) → (Lit.int .i64 i).wf = true → ∀ W, LiesN W A L → Calls Try.prog 16 #[.slice A n cap, .int .i64 i] W fun e w' => e = .returned (.tuple #[.int .u16 ((if atE L i = 0 then TM.uses L i.toNat else 0 : Nat) : Int), .int .i64 (atE L i)]) ∧ Below W.heap.size W w'
def SzOk : Prop := ∀ (A : Option Addr) (n cap : Nat) (L : List TM.N) (i : Int), L.length = n → n ≤ 9223372036854775807 → n ≤ cap → (∀ x ∈ L, TM.okN x) → (Lit.int .i64 i).wf = true → ∀ W, LiesN W A L → Calls Try.prog 19 #[.slice A n cap, .int .i64 i] W fun e w' => e = .returned (.tuple #[.int .u64 ((if atE L i = 0 then TM.sz L i.toNat else 0 : Nat) : Int), .int .i64 (atE L i)]) ∧ Below W.heap.size W w'
theorem wf64 {x : Int} (h : -9223372036854775808 ≤ x ∧ x ≤ 9223372036854775807) : (Lit.int .i64 x).wf = true :=
  by simp [Lit.wf, IntKind.min, IntKind.max, IntKind.signed, IntKind.bits]; omega
theorem atE_in {L : List TM.N} {i : Nat} (hr : TM.rowB L = true) (h : i < L.length) : atE L i = 0 := by
  unfold atE; rw [if_neg (by rw [hr]; simp), if_neg (by omega)]
theorem atE_out {L : List TM.N} {i : Int} (hr : TM.rowB L = true) (h : i < 0 ∨ (L.length : Int) ≤ i) : atE L i = 2 := by
  unfold atE; rw [if_neg (by rw [hr]; simp), if_pos h]

set_option maxHeartbeats 1600000 in
set_option maxRecDepth 100000 in
theorem tsize_big (hAw : Aw11) (A : Option Addr) (n cap : Nat) (hn : 200 < n) (w : World) :
    Calls Try.prog 5 #[.slice A n cap] w fun e w' => e = .returned (.bool true) ∧ Below w.heap.size w w' := by
  have hd : decide (200 < (n : Int)) = true := decide_eq_true (by omega)
  have HB := hid (Below.refl w.heap.size w)
  have HAw := hid hAw
  clear hn hAw
  go_enter Try.func5, Try.ntmps5
  go_wp2_with fail
  refine (HAw.out _).mono ?_
  rintro e w1 ⟨rfl, hb⟩
  replace HB := stp HB hb
  clear hb
  go_wp2_with fail
  refine (HAw.out _).mono ?_
  rintro e w2 ⟨rfl, hb⟩
  replace HB := stp HB hb
  clear hb
  go_wp2
  go_ret
  exact ⟨rfl, HB.out⟩
set_option maxHeartbeats 1600000 in
set_option maxRecDepth 100000 in
theorem tsize_bad (hAw : Aw11) (A : Option Addr) (n cap : Nat) (l : List TM.N) (hln : l.length = n) (hn : n ≤ 200) (ok : ∀ x ∈ l, TM.okN x) (hr : TM.rowB l = false) (w : World) (hl : LiesN w A l) :
    Calls Try.prog 5 #[.slice A n cap] w fun e w' => e = .returned (.bool true) ∧ Below w.heap.size w w' := by
  have hd : decide (200 < (n : Int)) = false := decide_eq_false (by omega)
  have HB := hid (Below.refl w.heap.size w)
  have HAw := hid hAw
  have HRt := hid (fun W (h : LiesN W A l) => rrow_any A n cap l hln (by omega) ok W h false hr)
  have HL := hid hl
  clear hn hAw hln ok hr hl
  go_enter Try.func5, Try.ntmps5
  go_wp2_with fail
  refine (HAw.out _).mono ?_
  rintro e w1 ⟨rfl, hb⟩
  replace HB := stp HB hb
  clear hb
  go_wp2_with fail
  refine (HRt.out _ (HL.out.below HB.out)).mono ?_
  rintro e w2 ⟨rfl, hb⟩
  replace HB := stp HB hb
  clear hb
  go_wp2_with fail
  refine (HAw.out _).mono ?_
  rintro e w3 ⟨rfl, hb⟩
  replace HB := stp HB hb
  clear hb
  go_wp2
  go_ret
  exact ⟨rfl, HB.out⟩

set_option maxHeartbeats 6400000 in
set_option maxRecDepth 1000000 in
theorem tsize_good (hAw : Aw11) (hUs : UsOk) (hSz : SzOk) (A : Option Addr) (n cap : Nat) (l : List TM.N) (hln : l.length = n) (hn : n ≤ 200) (hcap : n ≤ cap) (ok : ∀ x ∈ l, TM.okN x) (hrb : TM.rowB l = true) (w : World) (hl : LiesN w A l) :
    Calls Try.prog 5 #[.slice A n cap] w fun e w' => e = .returned (.bool true) ∧ Below w.heap.size w w' := by
  have hd : decide (200 < (n : Int)) = false := decide_eq_false (by omega)
  have hr := TM.row_iff.1 hrb
  have HB := hid (Below.refl w.heap.size w)
  have HAw := hid hAw
  have HRt := hid (fun W (h : LiesN W A l) => rrow_any A n cap l hln (by omega) ok W h true hrb)
  have HZs := hid (fun W (h : LiesN W A l) => rsizes_any A n cap l hln hr ok W h)
  have HSz := hid (fun (k : Nat) (hk : k < n) W (h : LiesN W A l) => (by
    have := hSz A n cap l k hln (by omega) hcap ok (wf64 (by omega)) W h
    rw [atE_in hrb (by omega), if_pos rfl, show (k : Int).toNat = k by omega] at this
    exact this : Calls Try.prog 19 #[.slice A n cap, .int .i64 k] W fun e w' => e = .returned (.tuple #[.int .u64 ((TM.sz l k : Nat) : Int), .int .i64 0]) ∧ Below W.heap.size W w'))
  have HSo := hid (fun W (h : LiesN W A l) => (by
    have := hSz A n cap l n hln (by omega) hcap ok (wf64 (by omega)) W h
    rw [atE_out hrb (.inr (by omega)), if_neg (by omega)] at this
    exact this : Calls Try.prog 19 #[.slice A n cap, .int .i64 n] W fun e w' => e = .returned (.tuple #[.int .u64 ((0 : Nat) : Int), .int .i64 2]) ∧ Below W.heap.size W w'))
  have HUo := hid (fun W (h : LiesN W A l) => (by
    have := hUs A n cap l (-1) hln (by omega) hcap ok (by decide) W h
    rw [atE_out hrb (.inl (by omega)), if_neg (by omega)] at this
    exact this : Calls Try.prog 16 #[.slice A n cap, .int .i64 (-1)] W fun e w' => e = .returned (.tuple #[.int .u16 ((0 : Nat) : Int), .int .i64 2]) ∧ Below W.heap.size W w'))
  have HIn := hid (fun b o (k : Nat) (hk : k < n) W (h : LyN W b o l) => rin_any b o n cap k l hln hr ok hk W h)
  have HCn := hid (fun (k : Nat) (hk : k < n) => (show TM.cnI l k n ≤ TM.sz l k ∧ TM.sz l k ≤ 1125899906842624 from ⟨by have := TM.cnI_sz hr k (by omega); rw [hln] at this; exact this, TM.sz_le l k hr (by omega)⟩))
  have HH := hid (And.intro hln hl)
  clear hAw hUs hSz hln ok hrb hr hl hcap
  go_enter Try.func5, Try.ntmps5
  go_wp2_with fail
  refine (HAw.out _).mono ?_
  rintro e w1 ⟨rfl, hb⟩
  replace HB := stp HB hb
  clear hb HAw
  go_wp2_with fail
  refine (HRt.out _ (HH.out.2.below HB.out)).mono ?_
  rintro e w2 ⟨rfl, hb⟩
  replace HB := stp HB hb
  clear hb HRt
  go_wp2_with fail
  refine (HZs.out _ (HH.out.2.below HB.out)).mono ?_
  rintro e w3 ⟨g, rfl, hR, hb, _⟩
  have HM := hid (And.intro hR (stp HB hb).out)
  clear hb HB hR HZs
  go_wp2
  go_loopw [31] (fun iv wr => ∃ (k : Nat), k ≤ n ∧ iv = .int .i64 k ∧ Hid (Row wr g n (fun j => .int .u64 ((TM.sz l j : Nat) : Int)) ∧ Below w.heap.size w wr)) (fun iv _ => n - (intOf iv).toNat)
  case atStart => exact ⟨0, Nat.zero_le _, rfl, HM.out⟩
  case round =>
    clear HM
    obtain ⟨k, hk, rfl, HR⟩ := hrel
    by_cases hlt : k < n
    · have i2 : (k : Int) < (n : Int) := by omega
      obtain ⟨b, o, rfl, hly⟩ := HH.out.2.ly (by rw [HH.out.1]; omega)
      have HL := hid hly
      have HS1 := hid (HSz.out k hlt)
      have HI1 := hid (HIn.out b o k hlt)
      have hC := HCn.out k hlt
      obtain ⟨z, hz⟩ : ∃ z, TM.sz l k = z := ⟨_, rfl⟩
      rw [hz] at HS1 hC
      clear hly
      go_wp2_with fail
      refine (HS1.out _ (HH.out.2.below HR.out.2)).mono ?_
      rintro e w4 ⟨rfl, hb⟩
      replace HR := hid (And.intro (HR.out.1.below hb) (stp (hid HR.out.2) hb).out)
      clear hb HS1
      go_wp2_with fail
      refine (HI1.out _ (HL.out.below HR.out.2)).mono ?_
      rintro e w5 ⟨gi, rfl, hRi, hb, _⟩
      have HI := hid (And.intro hRi (And.intro (HR.out.1.below hb) (stp (hid HR.out.2) hb).out))
      clear hb HI1 HR hRi HL
      go_wp2
      go_loopw [7, 44] (fun cv jv wr => ∃ (s c : Nat), s ≤ n ∧ c ≤ s ∧ cv = .int .u64 c ∧ jv = .int .i64 s ∧ Hid (TM.cnI l k s = c) ∧ wr = w5) (fun _ jv _ => n - (intOf jv).toNat)
      case atStart => exact ⟨0, 0, Nat.zero_le _, Nat.le_refl _, rfl, rfl, rfl, rfl⟩
      case round =>
        obtain ⟨s, c, hs, hcs, rfl, rfl, HC, rfl⟩ := hrel
        by_cases hs2 : s < n
        · have i3 : (s : Int) < (n : Int) := by omega
          have cr := HI.out.1.cell s hs2
          have HN := hid (TM.cnI_succ l k s)
          rw [HC.out] at HN
          cases hin : TM.inT l k s with
          | true =>
            simp only [hin] at cr
            have HN2 := hid (show TM.cnI l k (s + 1) = c + 1 from by rw [HN.out, if_pos hin])
            clear hin HN
            go_wp2
            go_roundw
            case rel => exact ⟨s + 1, c + 1, by omega, by omega, by go_num, by go_num, HN2.out, by first | trivial | rfl⟩
            case measure => simp [intOf]; omega
          | false =>
            simp only [hin] at cr
            have HN2 := hid (show TM.cnI l k (s + 1) = c from by rw [HN.out, hin]; rfl)
            clear hin HN
            go_wp2
            go_roundw
            case rel => exact ⟨s + 1, c, by omega, by omega, rfl, by go_num, HN2.out, by first | trivial | rfl⟩
            case measure => simp [intOf]; omega
        · obtain rfl : s = n := by omega
          rw [HC.out] at hC
          have cz := HI.out.2.1.cell k hlt
          simp only [hz] at cz
          have d1 : decide ((z : Int) < (c : Int)) = false := decide_eq_false (by omega)
          have d1' : decide (z < c) = false := decide_eq_false (by omega)
          have d2 : ((z : Int) != (z : Int)) = false := by simp
          have HF := hid HI.out.2
          clear HI HC hC hz
          go_wp2
          go_roundw
          case rel => exact ⟨k + 1, by omega, by go_num, HF.out⟩
          case measure => simp [intOf]; omega
    · obtain rfl : k = n := by omega
      go_wp2_with fail
      refine (HSo.out _ (HH.out.2.below HR.out.2)).mono ?_
      rintro e w4 ⟨rfl, hb⟩
      have HB := stp (hid HR.out.2) hb
      clear hb HR
      go_wp2_with fail
      refine (HUo.out _ (HH.out.2.below HB.out)).mono ?_
      rintro e w5 ⟨rfl, hb⟩
      replace HB := stp HB hb
      clear hb
      go_wp2
      go_ret
      exact ⟨rfl, HB.out⟩
theorem tsize_law (hAw : Aw11) (hUs : UsOk) (hSz : SzOk) (A : Option Addr) (cap : Nat) (l : List TM.N) (hcap : l.length ≤ cap) (ok : ∀ x ∈ l, TM.okN x) (w : World) (hl : LiesN w A l) :
    Calls Try.prog 5 #[.slice A l.length cap] w fun e w' => e = .returned (.bool true) ∧ Below w.heap.size w w' := by
  by_cases h : 200 < l.length
  · exact tsize_big hAw A l.length cap h w
  · cases hr : TM.rowB l with
    | false => exact tsize_bad hAw A l.length cap l rfl (by omega) ok hr w hl
    | true => exact tsize_good hAw hUs hSz A l.length cap l rfl (by omega) hcap ok hr w hl
end Go.Proofs.Ytmjeoknndnbglaa.TB
