/-
  The program's places behind one, as walks over the Go text.
-/
import Derived.Test.YtahaooghebmhnaaG5
import Derived.Test.YtahaooghebmhnaaHC
namespace Go.Proofs.Ytahaooghebmhnaa.M
/-- two places, each once, rising -/
def two (p q : Nat) : List Nat := if p = q then [p] else if q < p then [q, p] else [p, q]
def nextJ (l : List I) (i : Int) : List Nat := if locI l i = 0 then beh i.toNat (at0 l i.toNat) else []
theorem beh_two {j : Nat} {c : Int} {t f k : Nat} (h : kind c = 12) : beh j (c, (t : Int), (f : Int), (k : Int)) = two (j + 1 + t) (j + 1 + f) := by
  rw [beh_jif h]
  unfold two
  simp only [Int.toNat_natCast]
  by_cases e1 : t = f
  · subst e1; rw [if_pos rfl, if_pos rfl]
  · rw [if_neg (show ¬ (t : Int) = (f : Int) by omega), if_neg (show ¬ j + 1 + t = j + 1 + f by omega)]
    by_cases e2 : f < t
    · rw [if_pos (show (f : Int) < (t : Int) by omega), if_pos (show j + 1 + f < j + 1 + t by omega)]
    · rw [if_neg (show ¬ (f : Int) < (t : Int) by omega), if_neg (show ¬ j + 1 + f < j + 1 + t by omega)]
end Go.Proofs.Ytahaooghebmhnaa.M
namespace Go.Proofs.Ytahaooghebmhnaa.B
open Go.ChangeShapes Go.WideShapes Go.ChangeAt Go.RowKit
open Go.Sort hiding Below
set_option linter.unusedVariables false

set_option maxHeartbeats 1600000 in
set_option maxRecDepth 100000 in
theorem both_any (P Q : Int) (p q : Nat) (hP : P = p) (hQ : Q = q) (w : World) :
    Calls Try.prog 64 #[.int .i64 P, .int .i64 Q] w fun e w' => ∃ a c, e = .returned (.slice a (M.two p q).length c) ∧ Nx w' a (M.two p q) ∧ (∀ A, a = some A → w.heap.size ≤ A.block) ∧ Below w.heap.size w w' := by
  subst hP hQ
  unfold M.two
  rcases Nat.lt_trichotomy p q with h | h | h
  · rw [if_neg (show ¬ p = q by omega), if_neg (show ¬ q < p by omega)]
    have d1 : ((p : Int) == (q : Int)) = false := by rw [beq_eq_false_iff_ne]; omega
    have d2 : (p : Int) < (q : Int) := by omega
    have d3 : ¬ (q : Int) < (p : Int) := by omega
    clear h
    go_enter Try.func64, Try.ntmps64
    go_wp2
    go_ret
    exact ⟨_, ⟨_, rfl⟩, nx_new w [p, q] 3, (fun A h => by cases h; exact Nat.le_refl _), al _ _⟩
  · subst h
    rw [if_pos rfl]
    have d1 : ((p : Int) == (p : Int)) = true := by simp
    go_enter Try.func64, Try.ntmps64
    go_wp2
    go_ret
    exact ⟨_, _, rfl, nx_new w [p] 3, (fun A h => by cases h; exact Nat.le_refl _), al _ _⟩
  · rw [if_neg (show ¬ p = q by omega), if_pos h]
    have d1 : ((p : Int) == (q : Int)) = false := by rw [beq_eq_false_iff_ne]; omega
    have d2 : ¬ (p : Int) < (q : Int) := by omega
    have d3 : (q : Int) < (p : Int) := by omega
    clear h
    go_enter Try.func64, Try.ntmps64
    go_wp2
    go_ret
    exact ⟨_, ⟨_, rfl⟩, nx_new w [q, p] 3, (fun A h => by cases h; exact Nat.le_refl _), al _ _⟩

theorem row_nx {w : World} {g n : Nat} {V : Nat → Nat} (h : Row w g n (fun j => .int .i64 ((V j : Nat) : Int))) : Nx w (some ⟨g, 0, none⟩) ((List.range n).map V) :=
  .inr ⟨g, rfl, h.lt, fun j hj => by
    have hj' : j < n := by simpa using hj
    rw [h.cell j hj']
    simp⟩
theorem localI (a : Option Addr) (n cap : Nat) (l : List M.I) (pc : Int) (hln : l.length = n) (hn : n ≤ 65536) (ok : ∀ x ∈ l, M.okI x) (w : World) (hl : Lies w a l) :
    Calls Try.prog 56 #[.slice a n cap, .int .i64 pc] w fun e w' => e = .returned (.int .i64 (M.locI l pc)) ∧ Below w.heap.size w w' := by
  by_cases ho : pc < 0 ∨ (l.length : Int) ≤ pc
  · rw [M.locI_out ho]
    exact (local_out a n cap pc hn (by omega) w).mono fun e w' h => ⟨h.1, h.2 ▸ Below.refl _ _⟩
  · obtain ⟨p, rfl⟩ : ∃ p : Nat, pc = p := ⟨pc.toNat, by omega⟩
    have hpl : p < l.length := by omega
    obtain ⟨b, o, rfl, hly⟩ := hl.ly (by omega)
    rw [M.locI_at hpl, hln]
    exact local_ly b o n cap p l hln hn hpl ok w hly

set_option maxHeartbeats 1600000 in
set_option maxRecDepth 100000 in
theorem gnext_big (a : Option Addr) (n cap : Nat) (i : Int) (hn : 4096 < n) (w : World) :
    Calls Try.prog 53 #[.slice a n cap, .int .i64 i] w fun e w' => e = .returned (.slice none 0 0) ∧ w' = w := by
  have d : decide (4096 < (n : Int)) = true := decide_eq_true (by omega)
  go_enter Try.func53, Try.ntmps53
  go_wp2
  go_ret
  exact ⟨rfl, rfl⟩

set_option maxHeartbeats 1600000 in
set_option maxRecDepth 100000 in
theorem gnext_bad (a : Option Addr) (n cap : Nat) (i z : Int) (hn : n ≤ 4096) (hz : z ≠ 0) (w : World)
    (hL : Calls Try.prog 56 #[.slice a n cap, .int .i64 i] w fun e w' => e = .returned (.int .i64 z) ∧ Below w.heap.size w w') :
    Calls Try.prog 53 #[.slice a n cap, .int .i64 i] w fun e w' => e = .returned (.slice none 0 0) ∧ Below w.heap.size w w' := by
  have d : decide (4096 < (n : Int)) = false := decide_eq_false (by omega)
  have d2 : (z != 0) = true := by simpa using hz
  have HL := hid hL
  clear hL hz
  go_enter Try.func53, Try.ntmps53
  go_wp2_with fail
  refine HL.out.mono ?_
  rintro e w1 ⟨rfl, hb⟩
  have HB := hid hb
  clear hb
  go_wp2
  go_ret
  exact ⟨rfl, HB.out⟩

set_option maxHeartbeats 3200000 in
set_option maxRecDepth 100000 in
theorem gnext_at (b o n cap j : Nat) (c : Int) (t f k : Nat) (hn : n ≤ 4096) (hj : j < n) (ok : M.okI (c, t, f, k)) (w : World) (hl : ∀ w', Below w.heap.size w w' → LiesAt w' b o j (c, t, f, k))
    (hL : Calls Try.prog 56 #[.slice (some ⟨b, o, none⟩) n cap, .int .i64 j] w fun e w' => e = .returned (.int .i64 0) ∧ Below w.heap.size w w') :
    Calls Try.prog 53 #[.slice (some ⟨b, o, none⟩) n cap, .int .i64 j] w fun e w' => ∃ a c', e = .returned (.slice a (M.beh j (c, t, f, k)).length c') ∧ Nx w' a (M.beh j (c, t, f, k)) ∧ (∀ A, a = some A → w.heap.size ≤ A.block) ∧ Below w.heap.size w w' := by
  have i1 : (j : Int) < (n : Int) := by omega
  have d : decide (4096 < (n : Int)) = false := decide_eq_false (by omega)
  have b1 : 0 ≤ (t : Int) ∧ (t : Int) < 256 := ok.2.1
  have b2 : 0 ≤ (f : Int) ∧ (f : Int) < 256 := ok.2.2.1
  have b3 : 0 ≤ (k : Int) ∧ (k : Int) < 4294967296 := ok.2.2.2
  have HQ := hid hl
  have HL := hid hL
  clear ok hl hL
  go_enter Try.func53, Try.ntmps53
  go_wp2_with fail
  refine HL.out.mono ?_
  rintro e w1 ⟨rfl, hb⟩
  obtain ⟨p0, p1, p2, p3⟩ := HQ.out _ hb
  simp only at p0 p1 p2 p3
  have HA := hid (hb.alloc hb.size (.cells #[.int .u16 c, .int .u8 t, .int .u8 f, .int .u32 k] 46))
  have hA := At.new w1 c t f k
  have hsz := hb.size
  clear hb HL HQ
  go_wp2_with fail
  refine (kind_any _ _).mono ?_
  rintro e w2 ⟨rfl, rfl⟩
  obtain ⟨a0, a1, a2, a3, _⟩ := hA.cells
  clear hA p0 p1 p2 p3
  generalize w1.alloc (.cells #[.int .u16 c, .int .u8 t, .int .u8 f, .int .u32 k] 46) = W2 at *
  have hs2 := HA.out.size
  go_wp2_with (go_at_call 64; refine (both_any _ _ (j + 1 + t) (j + 1 + f) (by omega) (by omega) _).mono ?_; rintro e w3 ⟨a, c', rfl, hnx, hfr, hb⟩)
  all_goals go_ret
  · have e : M.kind c = 13 := eq_of_beq (by assumption)
    rw [M.beh_nil.2 (Or.inl e)]
    exact ⟨none, 0, rfl, .inl rfl, (fun A h => by cases h), HA.out⟩
  · have e : M.kind c = 14 := eq_of_beq (by assumption)
    rw [M.beh_nil.2 (Or.inr e)]
    exact ⟨none, 0, rfl, .inl rfl, (fun A h => by cases h), HA.out⟩
  · have e : M.kind c = 11 := eq_of_beq (by assumption)
    have e2 : M.beh j (c, (t : Int), (f : Int), (k : Int)) = [j + 1 + k] := by rw [M.beh_not (by simp only; omega), M.nxt_ja e]; simp
    rw [e2]
    exact ⟨_, _, rfl, nx_new _ [j + 1 + k] 3, (fun A h => by cases h; exact hs2), HA.out.alloc HA.out.size _⟩
  · have e : M.kind c = 12 := eq_of_beq (by assumption)
    rw [M.beh_two e]
    exact ⟨a, c', rfl, hnx, (fun A h => Nat.le_trans HA.out.size (hfr A h)), (stp HA hb).out⟩
  · rename_i h0 h1 h2 h3
    rw [beq_eq_false_iff_ne] at h0 h1 h2 h3
    have e2 : M.beh j (c, (t : Int), (f : Int), (k : Int)) = [j + 1] := by rw [M.beh_not (by simp only; omega), M.nxt_on (by simp only; omega)]
    rw [e2]
    exact ⟨_, _, rfl, nx_new _ [j + 1] 3, (fun A h => by cases h; exact hs2), HA.out.alloc HA.out.size _⟩

/-- of a place with which nothing is wrong alone -/
theorem gnext_ok (b o n cap j : Nat) (l : List M.I) (hln : l.length = n) (hn : n ≤ 4096) (hj : j < l.length) (ok : ∀ i ∈ l, M.okI i) (hz : M.loc n j l[j] = 0) (w : World) (hl : Ly w b o l) (js : List Nat) (hjs : M.beh j (M.at0 l j) = js) :
    Calls Try.prog 53 #[.slice (some ⟨b, o, none⟩) n cap, .int .i64 j] w fun e w' => ∃ a c, e = .returned (.slice a js.length c) ∧ Nx w' a js ∧ (∀ A, a = some A → w.heap.size ≤ A.block) ∧ Below w.heap.size w w' := by
  have hL := local_ly b o n cap j l hln (by omega) hj ok w hl
  rw [hz] at hL
  have hq : ∀ w', Below w.heap.size w w' → LiesAt w' b o j l[j] := fun w' hb => (hl.below hb).2 j hj
  have hok := ok _ (List.getElem_mem hj)
  rw [M.at0_eq hj] at hjs
  clear hz
  generalize l[j] = x at *
  obtain ⟨c, t, f, k⟩ := x
  obtain ⟨b0, b1, b2, b3⟩ := hok
  simp only at b0 b1 b2 b3
  obtain ⟨d, rfl⟩ : ∃ d : Nat, k = d := ⟨k.toNat, by omega⟩
  obtain ⟨t', rfl⟩ : ∃ d : Nat, t = d := ⟨t.toNat, by omega⟩
  obtain ⟨f', rfl⟩ : ∃ d : Nat, f = d := ⟨f.toNat, by omega⟩
  subst hjs
  exact gnext_at b o n cap j c t' f' d hn (by omega) ⟨b0, b1, b2, b3⟩ w hq hL
theorem gnext_ly (b o n cap j : Nat) (l : List M.I) (hln : l.length = n) (hn : n ≤ 4096) (hj : j < l.length) (ok : ∀ i ∈ l, M.okI i) (hr : M.right l) (w : World) (hl : Ly w b o l) (js : List Nat) (hjs : M.beh j (M.at0 l j) = js) :
    Calls Try.prog 53 #[.slice (some ⟨b, o, none⟩) n cap, .int .i64 j] w fun e w' => ∃ a c, e = .returned (.slice a js.length c) ∧ Nx w' a js ∧ (∀ A, a = some A → w.heap.size ≤ A.block) ∧ Below w.heap.size w w' :=
  gnext_ok b o n cap j l hln hn hj ok (by rw [← hln]; exact M.right_loc hr hj) w hl js hjs
theorem gnextI (a : Option Addr) (n cap : Nat) (l : List M.I) (hln : l.length = n) (hn : n ≤ 4096) (ok : ∀ x ∈ l, M.okI x) (w : World) (hl : Lies w a l) (pc : Int) :
    Calls Try.prog 53 #[.slice a n cap, .int .i64 pc] w fun e w' => ∃ a' c', e = .returned (.slice a' (M.nextJ l pc).length c') ∧ Nx w' a' (M.nextJ l pc) ∧ Below w.heap.size w w' := by
  by_cases hz : M.locI l pc = 0
  · have ho : ¬ (pc < 0 ∨ (l.length : Int) ≤ pc) := fun h => by rw [M.locI_out h] at hz; cases hz
    obtain ⟨p, rfl⟩ : ∃ p : Nat, pc = p := ⟨pc.toNat, by omega⟩
    have hpl : p < l.length := by omega
    obtain ⟨b, o, rfl, hly⟩ := hl.ly (by omega)
    have hz' := hz
    rw [M.locI_at hpl, hln] at hz'
    have hjs : M.nextJ l p = M.beh p (M.at0 l p) := by unfold M.nextJ; rw [if_pos hz, Int.toNat_natCast]
    rw [hjs]
    exact (gnext_ok b o n cap p l hln hn hpl ok hz' w hly _ rfl).mono fun e w' ⟨a, c, h1, h2, _, h3⟩ => ⟨a, c, h1, h2, h3⟩
  · have hjs : M.nextJ l pc = [] := by unfold M.nextJ; rw [if_neg hz]
    rw [hjs]
    exact (gnext_bad a n cap pc _ hn hz w (localI a n cap l pc hln (by omega) ok w hl)).mono fun e w' h => ⟨none, 0, h.1, .inl rfl, h.2⟩
end Go.Proofs.Ytahaooghebmhnaa.B
