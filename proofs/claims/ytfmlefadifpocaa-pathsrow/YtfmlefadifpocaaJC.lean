/-
  The program's places behind one, as walks over the Go text.
-/
import Derived.Test.YtfmlefadifpocaaG5
import Derived.Test.YtfmlefadifpocaaJF
namespace Go.Proofs.Ytfmlefadifpocaa.M
/-- two places, each once, rising -/
def two (p q : Nat) : List Nat := if p = q then [p] else if q < p then [q, p] else [p, q]
def nextJ (l : List I) (i : Int) : List Nat := if locI l i = 0 then beh i.toNat (at0 l i.toNat) else []
theorem beh_two {j : Nat} {c : Int} {t f k : Nat} (h : kind c = 12) : beh j (c, (t : Int), (f : Int), (k : Int)) = two (j + 1 + t) (j + 1 + f) := by
  rw [beh_jif h]
  unfold two
  simp only [Int.toNat_natCast]
  by_cases e1 : t = f
  · subst e1; rw [if_pos rfl, if_pos rfl]
  · rw [if_neg (show ¬ (t : Int) = (f : Int) by omega), if_neg (show ¬ j + 1 + t = j + 1 + f by omega)]
    by_cases e2 : f < t
    · rw [if_pos (show (f : Int) < (t : Int) by omega), if_pos (show j + 1 + f < j + 1 + t by omega)]
    · rw [if_neg (show ¬ (f : Int) < (t : Int) by omega), if_neg (show ¬ j + 1 + f < j + 1 + t by omega)]
end Go.Proofs.Ytfmlefadifpocaa.M
namespace Go.Proofs.Ytfmlefadifpocaa.B
open Go.ChangeShapes Go.WideShapes Go.ChangeAt Go.RowKit
open Go.Sort hiding Below
set_option linter.unusedVariables false

set_option maxHeartbeats 1600000 in
set_option maxRecDepth 100000 in
theorem both_any (P Q : Int) (p q : Nat) (hP : P = p) (hQ : Q = q) (w : World) :
    Calls Try.prog 42 #[.int .i64 P, .int .i64 Q] w fun e w' => ∃ a c, e = .returned (.slice a (M.two p q).length c) ∧ Nx w' a (M.two p q) ∧ (∀ A, a = some A → w.heap.size ≤ A.block) ∧ Below w.heap.size w w' := by
  subst hP hQ
  unfold M.two
  rcases Nat.lt_trichotomy p q with h | h | h
  · rw [if_neg (show ¬ p = q by omega), if_neg (show ¬ q < p by omega)]
    have d1 : ((p : Int) == (q : Int)) = false := by rw [beq_eq_false_iff_ne]; omega
    have d2 : (p : Int) < (q : Int) := by omega
    have d3 : ¬ (q : Int) < (p : Int) := by omega
    clear h
    go_enter Try.func42, Try.ntmps42
    go_wp2
    go_ret
    exact ⟨_, ⟨_, rfl⟩, nx_new w [p, q] 3, (fun A h => by cases h; exact Nat.le_refl _), al _ _⟩
  · subst h
    rw [if_pos rfl]
    have d1 : ((p : Int) == (p : Int)) = true := by simp
    go_enter Try.func42, Try.ntmps42
    go_wp2
    go_ret
    exact ⟨_, _, rfl, nx_new w [p] 3, (fun A h => by cases h; exact Nat.le_refl _), al _ _⟩
  · rw [if_neg (show ¬ p = q by omega), if_pos h]
    have d1 : ((p : Int) == (q : Int)) = false := by rw [beq_eq_false_iff_ne]; omega
    have d2 : ¬ (p : Int) < (q : Int) := by omega
    have d3 : (q : Int) < (p : Int) := by omega
    clear h
    go_enter Try.func42, Try.ntmps42
    go_wp2
    go_ret
    exact ⟨_, ⟨_, rfl⟩, nx_new w [q, p] 3, (fun A h => by cases h; exact Nat.le_refl _), al _ _⟩

theorem row_nx {w : World} {g n : Nat} {V : Nat → Nat} (h : Row w g n (fun j => .int .i64 ((V j : Nat) : Int))) : Nx w (some ⟨g, 0, none⟩) ((List.range n).map V) :=
  .inr ⟨g, rfl, h.lt, fun j hj => by
    have hj' : j < n := by simpa using hj
    rw [h.cell j hj']
    simp⟩
theorem localI (a : Option Addr) (n cap : Nat) (l : List M.I) (pc : Int) (hln : l.length = n) (hn : n ≤ 65536) (ok : ∀ x ∈ l, M.okI x) (w : World) (hl : Lies w a l) :
    Calls Try.prog 40 #[.slice a n cap, .int .i64 pc] w fun e w' => e = .returned (.int .i64 (M.locI l pc)) ∧ Below w.heap.size w w' := by
  by_cases ho : pc < 0 ∨ (l.length : Int) ≤ pc
  · rw [M.locI_out ho]
    exact (local_out a n cap pc hn (by omega) w).mono fun e w' h => ⟨h.1, h.2 ▸ Below.refl _ _⟩
  · obtain ⟨p, rfl⟩ : ∃ p : Nat, pc = p := ⟨pc.toNat, by omega⟩
    have hpl : p < l.length := by omega
    obtain ⟨b, o, rfl, hly⟩ := hl.ly (by omega)
    rw [M.locI_at hpl, hln]
    exact local_ly b o n cap p l hln hn hpl ok w hly

set_option maxHeartbeats 1600000 in
set_option maxRecDepth 100000 in
theorem gnext_big (a : Option Addr) (n cap : Nat) (i : Int) (hn : 4096 < n) (w : World) :
    Calls Try.prog 28 #[.slice a n cap, .int .i64 i] w fun e w' => e = .returned (.slice none 0 0) ∧ w' = w := by
  have d : decide (4096 < (n : Int)) = true := decide_eq_true (by omega)
  go_enter Try.func28, Try.ntmps28
  go_wp2
  go_ret
  exact ⟨rfl, rfl⟩

set_option maxHeartbeats 1600000 in
set_option maxRecDepth 100000 in
theorem gnext_bad (a : Option Addr) (n cap : Nat) (i z : Int) (hn : n ≤ 4096) (hz : z ≠ 0) (w : World)
    (hL : Calls Try.prog 40 #[.slice a n cap, .int .i64 i] w fun e w' => e = .returned (.int .i64 z) ∧ Below w.heap.size w w') :
    Calls Try.prog 28 #[.slice a n cap, .int .i64 i] w fun e w' => e = .returned (.slice none 0 0) ∧ Below w.heap.size w w' := by
  have d : decide (4096 < (n : Int)) = false := decide_eq_false (by omega)
  have d2 : (z != 0) = true := by simpa using hz
  have HL := hid hL
  clear hL hz
  go_enter Try.func28, Try.ntmps28
  go_wp2_with fail
  refine HL.out.mono ?_
  rintro e w1 ⟨rfl, hb⟩
  have HB := hid hb
  clear hb
  go_wp2
  go_ret
  exact ⟨rfl, HB.out⟩

set_option maxHeartbeats 3200000 in
set_option maxRecDepth 100000 in
theorem gnext_at (b o n cap j : Nat) (c : Int) (t f k : Nat) (hn : n ≤ 4096) (hj : j < n) (ok : M.okI (c, t, f, k)) (w : World) (hl : ∀ w', Below w.heap.size w w' → LiesAt w' b o j (c, t, f, k))
    (hL : Calls Try.prog 40 #[.slice (some ⟨b, o, none⟩) n cap, .int .i64 j] w fun e w' => e = .returned (.int .i64 0) ∧ Below w.heap.size w w') :
    Calls Try.prog 28 #[.slice (some ⟨b, o, none⟩) n cap, .int .i64 j] w fun e w' => ∃ a c', e = .returned (.slice a (M.beh j (c, t, f, k)).length c') ∧ Nx w' a (M.beh j (c, t, f, k)) ∧ (∀ A, a = some A → w.heap.size ≤ A.block) ∧ Below w.heap.size w w' := by
  have i1 : (j : Int) < (n : Int) := by omega
  have d : decide (4096 < (n : Int)) = false := decide_eq_false (by omega)
  have b1 : 0 ≤ (t : Int) ∧ (t : Int) < 256 := ok.2.1
  have b2 : 0 ≤ (f : Int) ∧ (f : Int) < 256 := ok.2.2.1
  have b3 : 0 ≤ (k : Int) ∧ (k : Int) < 4294967296 := ok.2.2.2
  have HQ := hid hl
  have HL := hid hL
  clear ok hl hL
  go_enter Try.func28, Try.ntmps28
  go_wp2_with fail
  refine HL.out.mono ?_
  rintro e w1 ⟨rfl, hb⟩
  obtain ⟨p0, p1, p2, p3⟩ := HQ.out _ hb
  simp only at p0 p1 p2 p3
  have HA := hid (hb.alloc hb.size (.cells #[.int .u16 c, .int .u8 t, .int .u8 f, .int .u32 k] 38))
  have hA := At.new w1 c t f k
  have hsz := hb.size
  clear hb HL HQ
  go_wp2_with fail
  refine (kind_any _ _).mono ?_
  rintro e w2 ⟨rfl, rfl⟩
  obtain ⟨a0, a1, a2, a3, _⟩ := hA.cells
  clear hA p0 p1 p2 p3
  generalize w1.alloc (.cells #[.int .u16 c, .int .u8 t, .int .u8 f, .int .u32 k] 38) = W2 at *
  have hs2 := HA.out.size
  go_wp2_with (go_at_call 42; refine (both_any _ _ (j + 1 + t) (j + 1 + f) (by omega) (by omega) _).mono ?_; rintro e w3 ⟨a, c', rfl, hnx, hfr, hb⟩)
  all_goals go_ret
  · have e : M.kind c = 13 := eq_of_beq (by assumption)
    rw [M.beh_nil.2 (Or.inl e)]
    exact ⟨none, 0, rfl, .inl rfl, (fun A h => by cases h), HA.out⟩
  · have e : M.kind c = 14 := eq_of_beq (by assumption)
    rw [M.beh_nil.2 (Or.inr e)]
    exact ⟨none, 0, rfl, .inl rfl, (fun A h => by cases h), HA.out⟩
  · have e : M.kind c = 11 := eq_of_beq (by assumption)
    have e2 : M.beh j (c, (t : Int), (f : Int), (k : Int)) = [j + 1 + k] := by rw [M.beh_not (by simp only; omega), M.nxt_ja e]; simp
    rw [e2]
    exact ⟨_, _, rfl, nx_new _ [j + 1 + k] 3, (fun A h => by cases h; exact hs2), HA.out.alloc HA.out.size _⟩
  · have e : M.kind c = 12 := eq_of_beq (by assumption)
    rw [M.beh_two e]
    exact ⟨a, c', rfl, hnx, (fun A h => Nat.le_trans HA.out.size (hfr A h)), (stp HA hb).out⟩
  · rename_i h0 h1 h2 h3
    rw [beq_eq_false_iff_ne] at h0 h1 h2 h3
    have e2 : M.beh j (c, (t : Int), (f : Int), (k : Int)) = [j + 1] := by rw [M.beh_not (by simp only; omega), M.nxt_on (by simp only; omega)]
    rw [e2]
    exact ⟨_, _, rfl, nx_new _ [j + 1] 3, (fun A h => by cases h; exact hs2), HA.out.alloc HA.out.size _⟩

/-- of a place with which nothing is wrong alone -/
theorem gnext_ok (b o n cap j : Nat) (l : List M.I) (hln : l.length = n) (hn : n ≤ 4096) (hj : j < l.length) (ok : ∀ i ∈ l, M.okI i) (hz : M.loc n j l[j] = 0) (w : World) (hl : Ly w b o l) (js : List Nat) (hjs : M.beh j (M.at0 l j) = js) :
    Calls Try.prog 28 #[.slice (some ⟨b, o, none⟩) n cap, .int .i64 j] w fun e w' => ∃ a c, e = .returned (.slice a js.length c) ∧ Nx w' a js ∧ (∀ A, a = some A → w.heap.size ≤ A.block) ∧ Below w.heap.size w w' := by
  have hL := local_ly b o n cap j l hln (by omega) hj ok w hl
  rw [hz] at hL
  have hq : ∀ w', Below w.heap.size w w' → LiesAt w' b o j l[j] := fun w' hb => (hl.below hb).2 j hj
  have hok := ok _ (List.getElem_mem hj)
  rw [M.at0_eq hj] at hjs
  clear hz
  generalize l[j] = x at *
  obtain ⟨c, t, f, k⟩ := x
  obtain ⟨b0, b1, b2, b3⟩ := hok
  simp only at b0 b1 b2 b3
  obtain ⟨d, rfl⟩ : ∃ d : Nat, k = d := ⟨k.toNat, by omega⟩
  obtain ⟨t', rfl⟩ : ∃ d : Nat, t = d := ⟨t.toNat, by omega⟩
  obtain ⟨f', rfl⟩ : ∃ d : Nat, f = d := ⟨f.toNat, by omega⟩
  subst hjs
  exact gnext_at b o n cap j c t' f' d hn (by omega) ⟨b0, b1, b2, b3⟩ w hq hL
theorem gnext_ly (b o n cap j : Nat) (l : List M.I) (hln : l.length = n) (hn : n ≤ 4096) (hj : j < l.length) (ok : ∀ i ∈ l, M.okI i) (hr : M.right l) (w : World) (hl : Ly w b o l) (js : List Nat) (hjs : M.beh j (M.at0 l j) = js) :
    Calls Try.prog 28 #[.slice (some ⟨b, o, none⟩) n cap, .int .i64 j] w fun e w' => ∃ a c, e = .returned (.slice a js.length c) ∧ Nx w' a js ∧ (∀ A, a = some A → w.heap.size ≤ A.block) ∧ Below w.heap.size w w' :=
  gnext_ok b o n cap j l hln hn hj ok (by rw [← hln]; exact M.right_loc hr hj) w hl js hjs
theorem gnextI (a : Option Addr) (n cap : Nat) (l : List M.I) (hln : l.length = n) (hn : n ≤ 4096) (ok : ∀ x ∈ l, M.okI x) (w : World) (hl : Lies w a l) (pc : Int) :
    Calls Try.prog 28 #[.slice a n cap, .int .i64 pc] w fun e w' => ∃ a' c', e = .returned (.slice a' (M.nextJ l pc).length c') ∧ Nx w' a' (M.nextJ l pc) ∧ Below w.heap.size w w' := by
  by_cases hz : M.locI l pc = 0
  · have ho : ¬ (pc < 0 ∨ (l.length : Int) ≤ pc) := fun h => by rw [M.locI_out h] at hz; cases hz
    obtain ⟨p, rfl⟩ : ∃ p : Nat, pc = p := ⟨pc.toNat, by omega⟩
    have hpl : p < l.length := by omega
    obtain ⟨b, o, rfl, hly⟩ := hl.ly (by omega)
    have hz' := hz
    rw [M.locI_at hpl, hln] at hz'
    have hjs : M.nextJ l p = M.beh p (M.at0 l p) := by unfold M.nextJ; rw [if_pos hz, Int.toNat_natCast]
    rw [hjs]
    exact (gnext_ok b o n cap p l hln hn hpl ok hz' w hly _ rfl).mono fun e w' ⟨a, c, h1, h2, _, h3⟩ => ⟨a, c, h1, h2, h3⟩
  · have hjs : M.nextJ l pc = [] := by unfold M.nextJ; rw [if_neg hz]
    rw [hjs]
    exact (gnext_bad a n cap pc _ hn hz w (localI a n cap l pc hln (by omega) ok w hl)).mono fun e w' h => ⟨none, 0, h.1, .inl rfl, h.2⟩
end Go.Proofs.Ytfmlefadifpocaa.B
namespace Go.Proofs.Ytfmlefadifpocaa.M
/-- reached, as it is known behind k places -/
def rchK (l : List I) (k j : Nat) : Bool := decide (j = 0) || (List.range k).any fun i => rch l i && (beh i (at0 l i)).contains j
theorem rchK_zero (l : List I) (j : Nat) : rchK l 0 j = decide (j = 0) := by unfold rchK; simp
theorem rchK_succ (l : List I) (k j : Nat) : rchK l (k + 1) j = (rchK l k j || (rch l k && (beh k (at0 l k)).contains j)) := by
  unfold rchK
  rw [List.range_succ, List.any_append]
  simp [Bool.or_assoc]
theorem rchK_at {l : List I} (ok : ∀ x ∈ l, okI x) {k j : Nat} (hj : j < l.length) (hk : j ≤ k) : rchK l k j = rch l j := by
  rw [Bool.eq_iff_iff]
  unfold rchK
  rw [Bool.or_eq_true, decide_eq_true_eq, List.any_eq_true]
  constructor
  · rintro (h | ⟨i, _, h⟩)
    · subst h; exact rch_zero hj
    · rw [Bool.and_eq_true, List.contains_iff_mem] at h
      exact rch_step ok (rch_lt h.1) h.1 h.2 hj
  · intro h
    rcases rch_from h with h | ⟨i, _, h2, h3⟩
    · exact .inl h
    · refine .inr ⟨i, List.mem_range.2 ?_, by rw [Bool.and_eq_true, List.contains_iff_mem]; exact ⟨h2, h3⟩⟩
      have := beh_gt h3
      omega
end Go.Proofs.Ytfmlefadifpocaa.M
namespace Go.Proofs.Ytfmlefadifpocaa.B
open Go.ChangeShapes Go.WideShapes Go.ChangeAt Go.RowKit
open Go.Sort hiding Below
set_option linter.unusedVariables false

set_option maxHeartbeats 3200000 in
set_option maxRecDepth 1000000 in
theorem greached_any (b o n cap : Nat) (l : List M.I) (hln : l.length = n) (hn : n ≤ 4096) (ok : ∀ i ∈ l, M.okI i) (hr : M.right l) (w : World) (hl : Ly w b o l) :
    Calls Try.prog 59 #[.slice (some ⟨b, o, none⟩) n cap] w fun e w' => ∃ g, e = .returned (.slice (some ⟨g, 0, none⟩) n n) ∧ Row w' g n (fun j => .bool (M.rch l j)) ∧ Below w.heap.size w w' ∧ w.heap.size ≤ g := by
  obtain ⟨i0, hi, hz0, hz1, hz2⟩ := info_parts infob
  have h0 : 0 < n := by rw [← hln]; exact ((M.right_iff l).1 hr).1.1
  have i1 : (0 : Int) < (n : Int) := by omega
  have HH := hid (And.intro hln (And.intro ok (And.intro hl hr)))
  have hbl : b < w.heap.size := hl.1
  clear hln ok hl hr
  go_enter Try.func59, Try.ntmps59
  go_wp2_with (at_make; refine wpList_make_full _ rfl _ _ 50 rfl w.heap.size 4 i0 (.bool false) 1 Try.underlying50 hi hz0 hz1 .i64 .i64 n n n rfl rfl rfl rfl ?c1 ?c2 (Nat.le_refl _) ?_)
  case c1 => rw [hz2]; omega
  case c2 => unfold maxLen; omega
  intro wm hown hgrow
  have hbm : Below w.heap.size w wm := (Below.refl _ _).grown hgrow (Nat.le_refl _) (by intro k hk; cases hk)
  have hR0 : Row wm w.heap.size n (fun _ => .bool false) := Row.of_own hown (fun j hj => made_get (.bool false) n j hj) (hown.lt _ rfl).2
  have cZ := hR0.cell 0 h0
  have fZ := hR0.froz 0 h0
  have HM := hid (show Row (wm.setCell ⟨w.heap.size, 0, none⟩ (.bool true)) w.heap.size n (fun j => .bool (M.rchK l 0 j)) ∧ Below w.heap.size w (wm.setCell ⟨w.heap.size, 0, none⟩ (.bool true)) from
    ⟨(hR0.set 0 h0 _).congr (fun j hj => by
      rw [M.rchK_zero]
      by_cases e2 : j = 0
      · simp [e2]
      · simp [e2]), hbm.setCell (Nat.le_refl _) _⟩)
  clear hown hgrow hbm hR0
  go_wp2
  generalize wm.setCell ⟨w.heap.size, 0, none⟩ (.bool true) = wz at *
  clear cZ fZ
  go_loopw [14] (fun i wr => ∃ k : Nat, k ≤ n ∧ i = .int .i64 k ∧ Hid (Row wr w.heap.size n (fun j => .bool (M.rchK l k j)) ∧ Below w.heap.size w wr)) (fun i _ => n - (intOf i).toNat)
  case atStart => exact ⟨0, Nat.zero_le _, rfl, HM.out⟩
  case round =>
    clear HM
    obtain ⟨k, hk, rfl, HR⟩ := hrel
    by_cases hlt : k < n
    · have i2 : (k : Int) < (n : Int) := by omega
      have hkl : k < l.length := by rw [HH.out.1]; exact hlt
      have cr := HR.out.1.cell k hlt
      have hrk : M.rchK l k k = M.rch l k := M.rchK_at HH.out.2.1 hkl (Nat.le_refl _)
      simp only [hrk] at cr
      clear hrk
      cases hc : M.rch l k with
      | false =>
        simp only [hc] at cr
        have HF := hid (show ∀ j, M.rchK l (k + 1) j = M.rchK l k j by intro j; rw [M.rchK_succ, hc]; simp)
        clear hc
        go_wp2
        go_roundw
        case rel => exact ⟨k + 1, by omega, by go_num, HR.out.1.congr fun j _ => by rw [HF.out], HR.out.2⟩
        case measure => simp [intOf]; omega
      | true =>
        simp only [hc] at cr
        obtain ⟨js, hjs⟩ : ∃ js, M.beh k (M.at0 l k) = js := ⟨_, rfl⟩
        have HN := hid (fun W h => gnext_ly b o n cap k l HH.out.1 hn hkl HH.out.2.1 HH.out.2.2.2 W h js hjs)
        have HJ := hid (show (∀ y ∈ js, y < n) ∧ ∀ j, M.rchK l (k + 1) j = (M.rchK l k j || js.contains j) from
          ⟨fun y hy => by rw [← hjs] at hy; rw [← HH.out.1]; exact M.beh_lt HH.out.2.2.2 HH.out.2.1 hkl hy, fun j => by rw [M.rchK_succ, hc, hjs]; simp⟩)
        have hlen : js.length ≤ 2 := by rw [← hjs]; exact M.beh_len _ _
        clear hjs hc
        obtain ⟨m, hm⟩ : ∃ m, js.length = m := ⟨_, rfl⟩
        rw [hm] at HN hlen
        go_wp2_with fail
        refine (HN.out _ (HH.out.2.2.1.far HR.out.2 hbl)).mono ?_
        rintro e w3 ⟨a, ca, rfl, hnx, hfr, hb⟩
        have HI := hid (show Row w3 w.heap.size n (fun j => .bool (M.rchK l k j || (js.take 0).contains j)) ∧ Below w.heap.size w w3 ∧ Nx w3 a js from
          ⟨(HR.out.1.below hb).congr fun j _ => by simp, (stp (hid HR.out.2) hb).out, hnx⟩)
        have HGN := hid (show ∀ A, a = some A → A.block ≠ w.heap.size from fun A hA => by have := hfr A hA; have := HR.out.1.lt; omega)
        have HMM := hid hm
        clear hb hnx hfr HN HR cr hm
        go_wp2
        go_loopw [26] (fun i wr => ∃ q : Nat, q ≤ m ∧ i = .int .i64 q ∧ Hid (Row wr w.heap.size n (fun j => .bool (M.rchK l k j || (js.take q).contains j)) ∧ Below w.heap.size w wr ∧ Nx wr a js)) (fun i _ => m - (intOf i).toNat)
        case atStart => exact ⟨0, Nat.zero_le _, rfl, HI.out⟩
        case round =>
          clear HI
          obtain ⟨q, hq, rfl, HQ⟩ := hrel
          by_cases hq2 : q < m
          · have i3 : (q : Int) < (m : Int) := by omega
            have hqj : q < js.length := by rw [HMM.out]; exact hq2
            obtain ⟨g', rfl⟩ : ∃ g', a = some ⟨g', 0, none⟩ := by
              rcases HQ.out.2.2 with h | ⟨g', e, _⟩
              · rw [h] at hqj; simp at hqj
              · exact ⟨g', e⟩
            have cy := nx_get HQ.out.2.2 q hqj
            obtain ⟨y, hy⟩ : ∃ y, js[q] = y := ⟨_, rfl⟩
            rw [hy] at cy
            have hyn : y < n := HJ.out.1 y (by rw [← hy]; exact List.getElem_mem hqj)
            have i4 : (y : Int) < (n : Int) := by omega
            have HT := hid (show ∀ j, (js.take (q + 1)).contains j = ((js.take q).contains j || decide (j = y)) by
              intro j
              rw [Bool.eq_iff_iff, Bool.or_eq_true, List.contains_iff_mem, List.contains_iff_mem, decide_eq_true_eq, M.take_succ_mem hqj, hy])
            have cR := HQ.out.1.cell y hyn
            have fR := HQ.out.1.froz y hyn
            clear hy
            go_wp2
            go_roundw
            case rel => exact ⟨q + 1, by omega, by go_num, (HQ.out.1.set y hyn _).congr (fun j hj => by
              rw [HT.out j]
              by_cases e : j = y
              · simp [e]
              · simp [e]), HQ.out.2.1.setCell (Nat.le_refl _) _, HQ.out.2.2.off HGN.out⟩
            case measure => simp [intOf]; omega
          · obtain rfl : q = m := by omega
            have HF := hid (show Row wr w.heap.size n (fun j => .bool (M.rchK l (k + 1) j)) from HQ.out.1.congr fun j _ => by rw [HJ.out.2 j, ← HMM.out, List.take_length])
            go_wp2
            go_roundw
            case rel => exact ⟨k + 1, by omega, by go_num, HF.out, HQ.out.2.1⟩
            case measure => simp [intOf]; omega
    · obtain rfl : k = n := by omega
      have HF := hid (show Row wr w.heap.size k (fun j => .bool (M.rch l j)) from HR.out.1.congr fun j hj => by rw [M.rchK_at HH.out.2.1 (by rw [HH.out.1]; exact hj) (Nat.le_of_lt hj)])
      go_wp2
      go_ret
      exact ⟨w.heap.size, rfl, HF.out, HR.out.2, Nat.le_refl _⟩

end Go.Proofs.Ytfmlefadifpocaa.B
namespace Go.Proofs.Ytfmlefadifpocaa.M
/-- the leaders, as they are known when the jumps among the first k places are -/
def leadR (l : List I) (k j : Nat) : Bool := decide (j = 0) || decide (1 < into l j) || jmpK l k j
theorem leadR_zero (l : List I) (j : Nat) : leadR l 0 j = if j = 0 then true else decide (1 < into l j) := by
  unfold leadR; rw [jmpK_zero]
  by_cases e : j = 0 <;> simp [e]
theorem leadR_succ (l : List I) (k j : Nat) : leadR l (k + 1) j = (leadR l k j || (rch l k && isJ (at0 l k) && (beh k (at0 l k)).contains j)) := by
  unfold leadR; rw [jmpK_succ]; simp only [Bool.or_assoc]
theorem leadR_all {l : List I} {n : Nat} (hn : l.length = n) (j : Nat) : leadR l n j = lead l j := by
  subst hn; rfl
theorem ends_go {c t f k : Int} (h : ends c = true) : goesOn (c, t, f, k) = false := by
  unfold ends at h
  unfold goesOn
  simp only [Bool.or_eq_true, beq_iff_eq] at h
  simp only [Bool.not_eq_false', Bool.and_eq_true, decide_eq_true_eq]
  omega
theorem isJ_go {c t f k : Int} (h : isJ (c, t, f, k) = true) : goesOn (c, t, f, k) = false := by
  unfold isJ at h
  unfold goesOn
  simp only [Bool.or_eq_true, decide_eq_true_eq] at h
  simp only [Bool.not_eq_false', Bool.and_eq_true, decide_eq_true_eq]
  omega
theorem on_go {c t f k : Int} (h1 : ends c = false) (h2 : isJ (c, t, f, k) = false) : goesOn (c, t, f, k) = true := by
  unfold ends at h1
  unfold isJ at h2
  rw [goesOn_iff]
  simp only [Bool.or_eq_false_iff, beq_eq_false_iff_ne, decide_eq_false_iff_not] at h1 h2
  simp only
  omega
end Go.Proofs.Ytfmlefadifpocaa.M
namespace Go.Proofs.Ytfmlefadifpocaa.B
open Go.ChangeShapes Go.WideShapes Go.ChangeAt Go.RowKit
open Go.Sort hiding Below
set_option linter.unusedVariables false

set_option maxHeartbeats 1600000 in
set_option maxRecDepth 100000 in
theorem greached_bad (a : Option Addr) (n cap : Nat) (l : List M.I) (hln : l.length = n) (hn : n ≤ 65536) (ok : ∀ i ∈ l, M.okI i) (w : World) (hl : Lies w a l) (hb : M.rightB l = false) :
    Calls Try.prog 47 #[.slice a n cap] w fun e w' => e = .returned (.slice none 0 0) ∧ Below w.heap.size w w' := by
  have HC := hid (right_any a n cap l hln (by omega) ok w hl false hb)
  clear hl ok hb
  go_enter Try.func47, Try.ntmps47
  go_wp2_with fail
  refine HC.out.mono ?_
  rintro e w1 ⟨rfl, hb⟩
  have HB := hid hb
  clear hb HC
  go_wp2
  go_ret
  exact ⟨rfl, HB.out⟩
set_option maxHeartbeats 1600000 in
set_option maxRecDepth 100000 in
theorem gReached (b o n cap : Nat) (l : List M.I) (hln : l.length = n) (hn : n ≤ 4096) (ok : ∀ i ∈ l, M.okI i) (hr : M.right l) (w : World) (hl : Ly w b o l) :
    Calls Try.prog 47 #[.slice (some ⟨b, o, none⟩) n cap] w fun e w' => ∃ g, e = .returned (.slice (some ⟨g, 0, none⟩) n n) ∧ Row w' g n (fun j => .bool (M.rch l j)) ∧ Below w.heap.size w w' ∧ w.heap.size ≤ g := by
  have HC := hid (right_any (some ⟨b, o, none⟩) n cap l hln (by omega) ok w hl.lies true (M.right_of.2 hr))
  have HG := hid (fun W (hb : Below w.heap.size w W) => greached_any b o n cap l hln hn ok hr W (hl.below hb))
  clear hl ok hr hln
  go_enter Try.func47, Try.ntmps47
  go_wp2_with fail
  refine HC.out.mono ?_
  rintro e w1 ⟨rfl, hb⟩
  have HB := hid hb
  clear hb HC
  go_wp2_with fail
  refine (HG.out _ HB.out).mono ?_
  rintro e w2 ⟨g, rfl, hR, hb, hg⟩
  have HR := hid (show Row w2 g n (fun j => .bool (M.rch l j)) ∧ Below w.heap.size w w2 ∧ w.heap.size ≤ g from ⟨hR, (stp HB hb).out, Nat.le_trans HB.out.size hg⟩)
  clear hb hR hg HB HG
  go_wp2
  go_ret
  exact ⟨g, rfl, HR.out⟩
end Go.Proofs.Ytfmlefadifpocaa.B
