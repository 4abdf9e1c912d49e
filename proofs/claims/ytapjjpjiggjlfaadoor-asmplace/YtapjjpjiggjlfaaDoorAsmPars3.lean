/-
  The instruction whose line it is, or none's, as a walk over the Go text.
-/
import Derived.Test.YtapjjpjiggjlfaaDoorAsmPars2
namespace Go.Proofs.YtapjjpjiggjlfaaDoor.B
open Go.ChangeShapes Go.WideShapes Go.ChangeAt Go.RowKit
open Go.Sort hiding Below
set_option linter.unusedVariables false

def iv4 (i : M.I) : Value := .agg #[.int .u16 i.1, .int .u8 i.2.1, .int .u8 i.2.2.1, .int .u32 i.2.2.2]
theorem empty_iff (r : List UInt8) : ((⟨r.toArray⟩ : ByteArray).toList == []) = decide (r = []) := by
  rw [ByteArray.toList_eq]
  cases r <;> simp

theorem parse_any (s : ByteArray) (hs : s.size ≤ 1000000) (w : World) (hN : Nm w) :
    Calls Tryd.prog 12 #[.string s] w fun e w' => e = .returned (.tuple #[.agg #[.int .u16 (M.pv (M.parse s.data.toList)).1, .int .u8 (M.pv (M.parse s.data.toList)).2.1, .int .u8 (M.pv (M.parse s.data.toList)).2.2.1, .int .u32 (M.pv (M.parse s.data.toList)).2.2.2], .int .i64 (M.perr (M.parse s.data.toList))]) ∧ Below w.heap.size w w' := by
  cases hf : M.find (M.bef 32 s.data.toList) with
  | none =>
    have e : M.parse s.data.toList = none := by unfold M.parse; rw [hf]
    rw [e]
    exact parse_none s hs w hf
  | some c =>
    obtain ⟨l, hl⟩ : ∃ l, l = s.data.toList := ⟨_, rfl⟩
    obtain ⟨N, hNn⟩ : ∃ N : ByteArray, N = ⟨(M.bef 32 l).toArray⟩ := ⟨_, rfl⟩
    obtain ⟨R0, hR0⟩ : ∃ R0 : ByteArray, R0 = ⟨(M.aft 32 l).toArray⟩ := ⟨_, rfl⟩
    have hNs : N.size = (M.bef 32 l).length := by rw [hNn, bar]
    have hR0l : R0.data.toList = M.aft 32 l := by rw [hR0]
    have hls : s.size = l.length := by rw [bdl, hl]
    have hle : N.size ≤ s.size := by rw [hNs, hls]; exact M.bef_len 32 l
    have hR0s : R0.size ≤ s.size := by
      rw [bdl, hR0l, hls]
      have := congrArg List.length (M.bef_aft 32 l)
      rw [List.length_append] at this; omega
    have hre : s.extract N.size s.size = R0 := by
      rw [Lib.extract_eq, hR0, M.aft_drop, ← hl, hNs, hls, List.take_of_length_le (by simp)]
    have hc : 0 ≤ c ∧ c < 65536 := by
      have := M.vals_small _ (M.find_mem hf)
      simp only at this
      omega
    have cC : ∀ w, Calls Tryd.prog 27 #[.string s, .string ⟨#[32]⟩] w fun e w' => ∃ R, e = .returned (.tuple #[.string N, .string R, .bool (M.has 32 s.data.toList)]) ∧ Below w.heap.size w w' := by
      rw [hNn, hl]; exact fun w => cut_any s 32 (by omega) w
    have cF : ∀ w, Calls Tryd.prog 28 #[.string N] w fun e w' => e = .returned (.tuple #[.int .u16 c, .bool true]) ∧ Below w.heap.size w w' := by
      intro w
      have := find_any (M.bef 32 l) (by rw [← hNs]; unfold maxLen; omega) w
      rw [hl, hf, ← hl, ← hNn] at this
      exact this
    rw [← hl]
    rw [← hl] at hf
    have hT := fun w hw => take32 R0 (by omega) w hw
    rw [hR0l] at hT
    cases hk : M.hasK c with
    | false =>
      have hJ := fun w hw => jumps_any R0 (by omega) w hw
      rw [hR0l] at hJ
      cases hj : M.jif c with
      | false =>
        have e : M.parse l = if M.aft 32 l = [] then some (c, 0, 0, 0) else none := by
          unfold M.parse; rw [hf]; simp only [M.partK, M.partJ, hk, hj]; rfl
        by_cases h0 : M.aft 32 l = []
        · rw [e, if_pos h0]
          exact p001 s N R0 c hc hle hs hre cC cF hk hj (by rw [hR0, empty_iff]; simp [h0]) w hN
        · rw [e, if_neg h0]
          exact p000 s N R0 c hc hle hs hre cC cF hk hj (by rw [hR0, empty_iff]; simp [h0]) w hN
      | true =>
        cases ej : M.jumps (M.aft 32 l) with
        | none =>
          have e : M.parse l = none := by
            unfold M.parse; rw [hf]; simp only [M.partK, M.partJ, hk, hj]; simp [ej]
          rw [e]
          rw [ej] at hJ
          exact p010 s N R0 c hc hle hs hre cC cF hk hj (fun w hw => (hJ w hw).mono fun e w' ⟨t, f, R, he, _, hb⟩ => ⟨t, f, R, he, hb⟩) w hN
        | some p =>
          obtain ⟨⟨t, f⟩, q⟩ := p
          have e : M.parse l = if q = [] then some (c, (t : Int), (f : Int), 0) else none := by
            unfold M.parse; rw [hf]; simp only [M.partK, M.partJ, hk, hj]; simp [ej]
          rw [ej] at hJ
          have cJ : ∀ w, Nm w → Calls Tryd.prog 30 #[.string R0] w fun e w' => e = .returned (.tuple #[.int .u8 t, .int .u8 f, .string ⟨q.toArray⟩, .bool true]) ∧ Below w.heap.size w w' := by
            intro w hw
            refine (hJ w hw).mono ?_
            rintro e w' ⟨t', f', R, rfl, hjj, hb⟩
            obtain ⟨rfl, rfl, rfl⟩ := hjj.1 t f q (by rw [hR0l]; exact ej)
            exact ⟨rfl, hb⟩
          by_cases h0 : q = []
          · rw [e, if_pos h0]
            exact p021 s N R0 c hc hle hs hre cC cF hk hj t f _ cJ (by rw [empty_iff]; simp [h0]) w hN
          · rw [e, if_neg h0]
            exact p020 s N R0 c hc hle hs hre cC cF hk hj t f _ cJ (by rw [empty_iff]; simp [h0]) w hN
    | true =>
      cases ek : M.take 32 (M.aft 32 l) with
      | none =>
        have e : M.parse l = none := by
          unfold M.parse; rw [hf]; simp only [M.partK, hk]; simp [ek]
        rw [e]
        rw [ek] at hT
        exact p100 s N R0 c hc hle hs hre cC cF hk (fun w hw => (hT w hw).mono fun e w' ⟨n, R, he, _, hb⟩ => ⟨n, R, he, hb⟩) w hN
      | some p =>
        obtain ⟨k, r⟩ := p
        obtain ⟨hkb, hal, hr⟩ := (M.take_iff (by decide)).1 ek
        obtain ⟨R1, hR1⟩ : ∃ R1 : ByteArray, R1 = ⟨r.toArray⟩ := ⟨_, rfl⟩
        have hR1l : R1.data.toList = r := by rw [hR1]
        have hR1s : R1.size ≤ R0.size := by
          rw [bdl, bdl, hR1l, hR0l, hal]; simp; omega
        rw [ek] at hT
        have cT : ∀ w, Nm w → Calls Tryd.prog 29 #[.string R0, .int .i64 32] w fun e w' => e = .returned (.tuple #[.int .u32 k, .string R1, .bool true]) ∧ Below w.heap.size w w' := by
          intro w hw
          refine (hT w hw).mono ?_
          rintro e w' ⟨n, R, rfl, tk, hb⟩
          obtain ⟨rfl, rfl⟩ := tk.1 k r (by rw [hR0l]; exact ek)
          rw [hR1]
          exact ⟨rfl, hb⟩
        have hkb' : (0 : Int) ≤ k ∧ (k : Int) < 4294967296 := by
          have : (2:Nat) ^ 32 = 4294967296 := by decide
          omega
        have hJ := fun w hw => jumps_any R1 (by omega) w hw
        rw [hR1l] at hJ
        cases hj : M.jif c with
        | false =>
          have e : M.parse l = if r = [] then some (c, 0, 0, (k : Int)) else none := by
            unfold M.parse; rw [hf]; simp only [M.partK, M.partJ, hk, hj]; simp [ek]
          by_cases h0 : r = []
          · rw [e, if_pos h0]
            exact p201 s N R0 c hc hle hs hre cC cF hk k R1 hkb' cT hj (by rw [hR1, empty_iff]; simp [h0]) w hN
          · rw [e, if_neg h0]
            exact p200 s N R0 c hc hle hs hre cC cF hk k R1 hkb' cT hj (by rw [hR1, empty_iff]; simp [h0]) w hN
        | true =>
          cases ej : M.jumps r with
          | none =>
            have e : M.parse l = none := by
              unfold M.parse; rw [hf]; simp only [M.partK, M.partJ, hk, hj]; simp [ek, ej]
            rw [e]
            rw [ej] at hJ
            exact p210 s N R0 c hc hle hs hre cC cF hk k R1 hkb' cT hj (fun w hw => (hJ w hw).mono fun e w' ⟨t, f, R, he, _, hb⟩ => ⟨t, f, R, he, hb⟩) w hN
          | some p =>
            obtain ⟨⟨t, f⟩, q⟩ := p
            have e : M.parse l = if q = [] then some (c, (t : Int), (f : Int), (k : Int)) else none := by
              unfold M.parse; rw [hf]; simp only [M.partK, M.partJ, hk, hj]; simp [ek, ej]
            rw [ej] at hJ
            have cJ : ∀ w, Nm w → Calls Tryd.prog 30 #[.string R1] w fun e w' => e = .returned (.tuple #[.int .u8 t, .int .u8 f, .string ⟨q.toArray⟩, .bool true]) ∧ Below w.heap.size w w' := by
              intro w hw
              refine (hJ w hw).mono ?_
              rintro e w' ⟨t', f', R, rfl, hjj, hb⟩
              obtain ⟨rfl, rfl, rfl⟩ := hjj.1 t f q (by rw [hR1l]; exact ej)
              exact ⟨rfl, hb⟩
            by_cases h0 : q = []
            · rw [e, if_pos h0]
              exact p221 s N R0 c hc hle hs hre cC cF hk k R1 hkb' cT hj t f _ cJ (by rw [empty_iff]; simp [h0]) w hN
            · rw [e, if_neg h0]
              exact p220 s N R0 c hc hle hs hre cC cF hk k R1 hkb' cT hj t f _ cJ (by rw [empty_iff]; simp [h0]) w hN
end Go.Proofs.YtapjjpjiggjlfaaDoor.B
