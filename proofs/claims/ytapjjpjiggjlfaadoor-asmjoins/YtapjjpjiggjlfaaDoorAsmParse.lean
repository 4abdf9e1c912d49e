/-
  Numbers taken off the front of a text, and the instruction whose line it is, as walks over the Go text.
-/
import Derived.Test.YtapjjpjiggjlfaaDoorAsmCut
import Derived.Test.YtapjjpjiggjlfaaDoorInsSame
namespace Go.Proofs.YtapjjpjiggjlfaaDoor.B
open Go.ChangeShapes Go.WideShapes Go.ChangeAt Go.RowKit
open Go.Sort hiding Below
set_option linter.unusedVariables false

/-- what 'take' answers: the number and the rest where there is one -/
def Took (B : Nat) (s : ByteArray) (n : Int) (R : ByteArray) : Prop := (∀ u r, M.take B s.data.toList = some (u, r) → n = u ∧ R = ⟨r.toArray⟩) ∧ 0 ≤ n ∧ n < 4294967296 ∧ R.size ≤ s.size

set_option maxHeartbeats 1600000 in
set_option maxRecDepth 100000 in
theorem take_core (B : Nat) (hB : 2 ^ B ≤ 4294967296) (s : ByteArray) (hs : s.size ≤ 1000000) (w : World) (hN : Nm w)
    (hp : ∀ (s : ByteArray) (w : World), s.size ≤ 1000000000 → Nm w → Calls Tryd.prog 46 #[.string s, .int .i64 B] w fun e w' => e = .returned (.tuple #[.int .u32 (((M.number B s.data.toList).getD 0 : Nat) : Int), .bool (M.number B s.data.toList).isSome]) ∧ Below w.heap.size w w') :
    Calls Tryd.prog 29 #[.string s, .int .i64 B] w fun e w' => ∃ n R, e = .returned (.tuple #[.int .u32 n, .string R, .bool (M.take B s.data.toList).isSome]) ∧ Took B s n R ∧ Below w.heap.size w w' := by
  have HN := Lib.hid hN
  by_cases hpre : ∃ r, s.data.toList = 32 :: r
  · obtain ⟨r, hr⟩ := hpre
    obtain ⟨S, hS⟩ : ∃ S : ByteArray, S = ⟨r.toArray⟩ := ⟨_, rfl⟩
    have hSl : S.data.toList = r := by rw [hS]
    have hsz : s.size = S.size + 1 := by rw [bdl, bdl, hSl, hr]; simp
    have cX : ∀ w, Calls Tryd.prog 45 #[.string s, .string ⟨#[32]⟩] w fun e w' => e = .returned (.tuple #[.string S, .bool true]) ∧ w' = w := by
      intro w
      have := Tryd.strings_CutPrefix s ⟨#[32]⟩ w
      rw [hr] at this
      have e1 : Lib.hasPrefix (32 :: r) [32] = true := by simp [Lib.hasPrefix, List.isPrefixOf]
      have e2 : Lib.trimPrefix (32 :: r) [32] = r := by unfold Lib.trimPrefix; rw [e1]; simp
      rw [e1, e2, ← hS] at this
      exact this
    obtain ⟨D, hD⟩ : ∃ D : ByteArray, D = ⟨(M.bef 32 r).toArray⟩ := ⟨_, rfl⟩
    have hDl : D.data.toList = M.bef 32 r := by rw [hD]
    have hDs : D.size ≤ S.size := by rw [bdl, bdl, hDl, hSl]; exact M.bef_len 32 r
    have cC : ∀ w, Calls Tryd.prog 27 #[.string S, .string ⟨#[32]⟩] w fun e w' => ∃ R, e = .returned (.tuple #[.string D, .string R, .bool (M.has 32 S.data.toList)]) ∧ Below w.heap.size w w' := by
      intro w
      have := cut_any S 32 (by omega) w
      rw [show M.bef 32 S.data.toList = M.bef 32 r by rw [hSl], ← hD] at this
      exact this
    have cP : ∀ w, Nm w → Calls Tryd.prog 46 #[.string D, .int .i64 B] w fun e w' => e = .returned (.tuple #[.int .u32 (((M.number B D.data.toList).getD 0 : Nat) : Int), .bool (M.number B D.data.toList).isSome]) ∧ Below w.heap.size w w' := fun w hw => hp D w (by omega) hw
    obtain ⟨n, hn⟩ : ∃ n : Int, n = (((M.number B D.data.toList).getD 0 : Nat) : Int) := ⟨_, rfl⟩
    obtain ⟨o, ho⟩ : ∃ o, o = (M.number B D.data.toList).isSome := ⟨_, rfl⟩
    rw [← hn, ← ho] at cP
    have htk : M.take B s.data.toList = (M.number B D.data.toList).map fun u => (u, M.aft 32 r) := by rw [hr, hDl]; simp [M.take]
    have hts : (M.take B s.data.toList).isSome = o := by rw [htk, ho]; simp
    have c1 : (0 : Int) ≤ D.size := by omega
    have c2 : (D.size : Int) ≤ S.size := by omega
    have tk : Took B s n (S.extract D.size S.size) := by
      have hre : S.extract D.size S.size = ⟨(M.aft 32 r).toArray⟩ := by
        rw [Lib.extract_eq, M.aft_drop, hSl]
        have e1 : D.size = (M.bef 32 r).length := by rw [bdl, hDl]
        have e2 : S.size = r.length := by rw [bdl, hSl]
        rw [e1, e2, List.take_of_length_le (by simp)]
      refine ⟨?_, ?_, ?_, ?_⟩
      · intro u q h
        rw [htk] at h
        cases e : M.number B D.data.toList with
        | none => rw [e] at h; cases h
        | some v =>
          rw [e] at h
          simp only [Option.map_some, Option.some.injEq, Prod.mk.injEq] at h
          obtain ⟨rfl, rfl⟩ := h
          rw [hn, e, hre]
          exact ⟨rfl, rfl⟩
      · omega
      · rw [hn]
        cases e : M.number B D.data.toList with
        | none => simp
        | some v => have := ((M.number_iff hB).1 e).1; simp; omega
      · rw [bdl, hre]
        have := congrArg List.length (M.bef_aft 32 r)
        rw [List.length_append] at this
        rw [hsz, bdl S, hSl]
        simp only
        omega
    have TK := Lib.hid tk
    rw [hts]
    clear hp hN hr hS hSl hD hDl hn ho htk hts tk hs hB
    go_enter Tryd.func29, Tryd.ntmps29
    go_wp2_with (first
      | (go_at_call 45; refine (cX _).mono ?_; rintro e w1 ⟨rfl, rfl⟩)
      | (go_at_call 27; refine (cC _).mono ?_; rintro e w2 ⟨R, rfl, hb⟩; have hB := Lib.hid hb; clear hb)
      | (go_at_call 46; refine (cP _ (HN.out.below hB.out)).mono ?_; rintro e w3 ⟨rfl, hb⟩; have hB := stp hB hb; clear hb))
    go_quiet (fail)
    go_wp2
    go_ret3
    exact ⟨_, _, rfl, TK.out, below_drewN hB.out _⟩
  · have htk : M.take B s.data.toList = none := by
      cases e : s.data.toList with
      | nil => rfl
      | cons x r =>
        simp only [M.take]
        rw [if_neg]
        rintro rfl
        exact hpre ⟨r, e⟩
    have cX : ∀ w, Calls Tryd.prog 45 #[.string s, .string ⟨#[32]⟩] w fun e w' => e = .returned (.tuple #[.string s, .bool false]) ∧ w' = w := by
      intro w
      have := Tryd.strings_CutPrefix s ⟨#[32]⟩ w
      have e1 : Lib.hasPrefix s.data.toList [32] = false := by
        cases e : s.data.toList with
        | nil => rfl
        | cons x r =>
          have : (32 == x) = false := by
            simp only [beq_eq_false_iff_ne, ne_eq]
            rintro rfl
            exact hpre ⟨r, e⟩
          simp [Lib.hasPrefix, List.isPrefixOf, this]
      have e2 : Lib.trimPrefix s.data.toList [32] = s.data.toList := by unfold Lib.trimPrefix; rw [e1]; simp
      have e3 : (⟨s.data.toList.toArray⟩ : ByteArray) = s := M.bytes_ext rfl
      rw [e1, e2, e3] at this
      exact this
    rw [htk]
    have HT : Took B s 0 ⟨#[]⟩ := ⟨fun u r h => (by rw [htk] at h; cases h), by omega, by omega, Nat.zero_le _⟩
    have TK := Lib.hid HT
    clear HT htk hpre hp hN
    go_enter Tryd.func29, Tryd.ntmps29
    go_wp2_with (first
      | (go_at_call 45; refine (cX _).mono ?_; rintro e w1 ⟨rfl, rfl⟩))
    go_ret3
    exact ⟨_, _, rfl, TK.out, Below.refl _ _⟩

theorem take32 (s : ByteArray) (hs : s.size ≤ 1000000) (w : World) (hN : Nm w) : Calls Tryd.prog 29 #[.string s, .int .i64 32] w fun e w' => ∃ n R, e = .returned (.tuple #[.int .u32 n, .string R, .bool (M.take 32 s.data.toList).isSome]) ∧ Took 32 s n R ∧ Below w.heap.size w w' :=
  take_core 32 (by decide) s hs w hN fun s w hs hw => parsenum32 s hs w hw
theorem take8 (s : ByteArray) (hs : s.size ≤ 1000000) (w : World) (hN : Nm w) : Calls Tryd.prog 29 #[.string s, .int .i64 8] w fun e w' => ∃ n R, e = .returned (.tuple #[.int .u32 n, .string R, .bool (M.take 8 s.data.toList).isSome]) ∧ Took 8 s n R ∧ Below w.heap.size w w' :=
  take_core 8 (by decide) s hs w hN fun s w hs hw => parsenum8 s hs w hw

theorem results_tmp4 {fn : Func} {t u v x : Tmp} (h : fn.results = #[.tmp t, .tmp u, .tmp v, .tmp x]) (tmps : Array Value) (P : Program) (w : World) :
    (results fn tmps).run P w = .ok (.tuple #[tmps.getD t undef, tmps.getD u undef, tmps.getD v undef, tmps.getD x undef]) w := by
  simp [results, h]
def Jumped (s : ByteArray) (t f : Int) (R : ByteArray) : Prop := (∀ u v r, M.jumps s.data.toList = some ((u, v), r) → t = u ∧ f = v ∧ R = ⟨r.toArray⟩) ∧ R.size ≤ s.size
set_option maxHeartbeats 1600000 in
set_option maxRecDepth 100000 in
theorem jumps_any (s : ByteArray) (hs : s.size ≤ 1000000) (w : World) (hN : Nm w) : Calls Tryd.prog 30 #[.string s] w fun e w' => ∃ t f R, e = .returned (.tuple #[.int .u8 t, .int .u8 f, .string R, .bool (M.jumps s.data.toList).isSome]) ∧ Jumped s t f R ∧ Below w.heap.size w w' := by
  have HN := Lib.hid hN
  have ca := take8 s hs w hN
  cases e1 : M.take 8 s.data.toList with
  | none =>
    have ej : M.jumps s.data.toList = none := by unfold M.jumps; rw [e1]
    have HJ : Jumped s 0 0 ⟨#[]⟩ := ⟨fun u v r h => (by rw [ej] at h; cases h), Nat.zero_le _⟩
    have JJ := Lib.hid HJ
    rw [ej]
    rw [e1] at ca
    clear HJ ej e1 hN
    go_enter Tryd.func30, Tryd.ntmps30
    go_wp2_with (first
      | (go_at_call 29; refine ca.mono ?_; rintro e w1 ⟨n, R, rfl, tk, hb⟩; have hB := Lib.hid hb; clear hb))
    refine bodyPost_ret (results_tmp4 rfl _ _ _) rfl ?_
    exact ⟨_, _, _, rfl, JJ.out, hB.out⟩
  | some p =>
    obtain ⟨t, r⟩ := p
    obtain ⟨S, hS⟩ : ∃ S : ByteArray, S = ⟨r.toArray⟩ := ⟨_, rfl⟩
    have hSl : S.data.toList = r := by rw [hS]
    have ht : t < 256 := ((M.take_iff (by decide)).1 e1).1
    rw [e1] at ca
    have ca : Calls Tryd.prog 29 #[.string s, .int .i64 8] w fun e w' => e = .returned (.tuple #[.int .u32 t, .string S, .bool true]) ∧ S.size ≤ s.size ∧ Below w.heap.size w w' := by
      refine ca.mono ?_
      rintro e w' ⟨n, R, rfl, tk, hb⟩
      obtain ⟨rfl, rfl⟩ := tk.1 t r e1
      rw [hS]
      exact ⟨rfl, tk.2.2.2, hb⟩
    have cb : ∀ w, Nm w → S.size ≤ s.size → Calls Tryd.prog 29 #[.string S, .int .i64 8] w fun e w' => ∃ n R, e = .returned (.tuple #[.int .u32 n, .string R, .bool (M.take 8 S.data.toList).isSome]) ∧ Took 8 S n R ∧ Below w.heap.size w w' := fun w hw hle => take8 S (by omega) w hw
    have wt : IntKind.u8.wrap (t : Int) = t := by rw [IntKind.wrap_u8]; omega
    have fin : ∀ n R, Took 8 S n R → S.size ≤ s.size → Jumped s t (IntKind.u8.wrap n) R := by
      intro n R tk hle
      refine ⟨?_, Nat.le_trans tk.2.2.2 hle⟩
      intro u v q h
      unfold M.jumps at h
      rw [e1] at h
      simp only at h
      rw [← hSl] at h
      cases e2 : M.take 8 S.data.toList with
      | none => rw [e2] at h; cases h
      | some p' =>
        obtain ⟨f, q'⟩ := p'
        rw [e2] at h
        simp only [Option.some.injEq, Prod.mk.injEq] at h
        obtain ⟨⟨rfl, rfl⟩, rfl⟩ := h
        obtain ⟨h1, h2⟩ := tk.1 _ _ e2
        have := ((M.take_iff (by decide)).1 e2).1
        exact ⟨rfl, by rw [h1, IntKind.wrap_u8]; omega, h2⟩
    have hsome : (M.jumps s.data.toList).isSome = (M.take 8 S.data.toList).isSome := by
      unfold M.jumps
      rw [e1]
      simp only
      rw [← hSl]
      cases M.take 8 S.data.toList <;> rfl
    have FN := Lib.hid fin
    rw [hsome]
    clear fin hsome hS hSl e1 hN hs
    go_enter Tryd.func30, Tryd.ntmps30
    go_wp2_with (first
      | (go_at_call_of 29 (Value.string s); refine ca.mono ?_; rintro e w1 ⟨rfl, hle, hb⟩; have hB := Lib.hid hb; have HL := Lib.hid hle; clear hb hle)
      | (go_at_call 29; refine (cb _ (HN.out.below hB.out) HL.out).mono ?_; rintro e w2 ⟨n, R, rfl, tk, hb⟩; have hB := stp hB hb; clear hb))
    refine bodyPost_ret (results_tmp4 rfl _ _ _) rfl ?_
    refine ⟨_, _, _, rfl, ?_, hB.out⟩
    have := FN.out n R tk HL.out
    rw [IntKind.wrap_u8] at this
    exact this
end Go.Proofs.YtapjjpjiggjlfaaDoor.B
