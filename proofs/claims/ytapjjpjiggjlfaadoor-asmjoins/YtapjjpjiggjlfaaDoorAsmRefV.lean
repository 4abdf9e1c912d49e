/-
  What a text's bytes come to as digits, in the document's own words, as a walk over the Go text.
-/
import Derived.Test.YtapjjpjiggjlfaaDoorAsmRefN
import Derived.Test.YtapjjpjiggjlfaaDoorAsmPars
namespace Go.Proofs.YtapjjpjiggjlfaaDoor.M
def rstep (a : Int) (b : UInt8) : Int := (10 * a + ((b.toNat : Int) - 48) % 256) % 4294967296
def rv (l : List UInt8) : Int := l.foldl rstep 0
theorem rv_snoc (l : List UInt8) (b : UInt8) : rv (l ++ [b]) = rstep (rv l) b := by simp [rv]
theorem rv_bd (l : List UInt8) : 0 ≤ rv l ∧ rv l < 4294967296 := by
  rcases List.eq_nil_or_concat l with rfl | ⟨m, b, rfl⟩
  · exact ⟨by decide, by decide⟩
  · rw [List.concat_eq_append, rv_snoc]; unfold rstep; omega
theorem rv_take {l : List UInt8} {k : Nat} (h : k < l.length) : rv (l.take (k + 1)) = rstep (rv (l.take k)) l[k] := by
  rw [List.take_succ_eq_append_getElem h, rv_snoc]
theorem rv_num : ∀ n, n < 4294967296 → rv (num n) = n := by
  apply num_ind
  · intro n h
    rw [num_small h]
    show (10 * 0 + (((UInt8.ofNat (48 + n)).toNat : Int) - 48) % 256) % 4294967296 = n
    rw [ofNat_toNat h]; omega
  · intro n h h' ih
    rw [num_big h h', rv_snoc, ih]
    unfold rstep
    rw [ofNat_toNat (by omega)]; omega
end Go.Proofs.YtapjjpjiggjlfaaDoor.M
namespace Go.Proofs.YtapjjpjiggjlfaaDoor.B
open Go.ChangeShapes Go.WideShapes Go.ChangeAt Go.RowKit
open Go.Sort hiding Below
set_option linter.unusedVariables false

/-- the byte at a place -/
theorem index_at (s : ByteArray) (k : Nat) (h : k < s.size) (b : Int) (hb : b = M.at_ s k) (W : World) : (Instr.index 9 (.string s) (.int .i64 (k : Int))).run Tryd.prog W = .ok (.int .u8 b) W := by
  have := M.at_get s k h
  rw [hb, ← this]
  go_simp

set_option maxHeartbeats 1600000 in
set_option maxRecDepth 1000000 in
theorem value_any (s : ByteArray) (hs : s.size ≤ 100000) (w : World) :
    Calls Tryd.prog 33 #[.string s] w fun e w' => e = .returned (.int .u32 (M.rv s.data.toList)) ∧ w' = w := by
  obtain ⟨l, hl⟩ : ∃ l, l = s.data.toList := ⟨_, rfl⟩
  have hln : s.size = l.length := by rw [bdl, hl]
  rw [← hl]
  have HL := Lib.hid hl
  clear hl
  go_enter Tryd.func33, Tryd.ntmps33
  go_wp2
  go_loop [3, 4] (fun v i => ∃ k : Nat, k ≤ l.length ∧ i = .int .i64 k ∧ v = .int .u32 (M.rv (l.take k)))
    (fun _ i => l.length - (intOf i).toNat)
  case atStart => exact ⟨0, Nat.zero_le _, rfl, rfl⟩
  case round =>
    obtain ⟨k, hk, rfl, rfl⟩ := hrel
    by_cases hlt : k < l.length
    · have i1 : (k : Int) < (s.size : Int) := by omega
      obtain ⟨b, hb⟩ : ∃ b : Int, b = M.at_ s k := ⟨_, rfl⟩
      have hix := fun W => index_at s k (by omega) b hb W
      obtain ⟨v, hv⟩ : ∃ v, v = M.rv (l.take k) := ⟨_, rfl⟩
      rw [← hv]
      have bd := M.at_bd s k
      rw [← hb] at bd
      have vb := M.rv_bd (l.take k)
      rw [← hv] at vb
      have hst : M.rv (l.take (k + 1)) = (10 * v % 4294967296 + (b - 48) % 256) % 4294967296 := by
        rw [M.rv_take hlt, ← hv, M.rstep, hb]
        have : M.at_ s k = (l[k].toNat : Int) := by
          unfold M.at_
          rw [← HL.out, List.getD_eq_getElem?_getD, List.getElem?_eq_getElem hlt]
          rfl
        rw [this]
        omega
      have HST := Lib.hid hst
      clear hst hb hv bd vb
      go_wp2
      go_round
      case rel => exact ⟨k + 1, by omega, by go_num, by rw [HST.out]⟩
      case measure => simp [intOf]; omega
    · obtain rfl : k = l.length := by omega
      have i1 : ¬ (l.length : Int) < (s.size : Int) := by omega
      rw [List.take_length]
      go_wp2
      go_ret
      exact ⟨rfl, rfl⟩
end Go.Proofs.YtapjjpjiggjlfaaDoor.B
