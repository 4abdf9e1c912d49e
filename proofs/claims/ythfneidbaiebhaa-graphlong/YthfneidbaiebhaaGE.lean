/-
  The places behind each place, which are reached, from how many, and the longest way, against the document's: the walk of the statement GraphTells, over what its callees answer.
-/
import Derived.Test.YthfneidbaiebhaaGD
import Derived.Test.YthfneidbaiebhaaG6
namespace Go.Proofs.Ythfneidbaiebhaa.B
open Go.ChangeShapes Go.WideShapes Go.ChangeAt Go.RowKit
open Go.Sort hiding Below
set_option linter.unusedVariables false

set_option maxHeartbeats 1600000 in
set_option maxRecDepth 100000 in
theorem rlocal_out (a : Option Addr) (n cap : Nat) (i : Int) (hn : n ≤ 65536) (hi : i < 0 ∨ (n : Int) ≤ i) (w : World) :
    Calls Try.prog 9 #[.slice a n cap, .int .i64 i] w fun e w' => e = .returned (.int .i64 2) ∧ w' = w := by
  by_cases h : i < 0
  · have d : decide (i < 0) = true := decide_eq_true h
    go_enter Try.func9, Try.ntmps9
    go_wp2
    go_ret
    exact ⟨rfl, rfl⟩
  · have d : decide (i < 0) = false := decide_eq_false h
    have d2 : decide ((n : Int) ≤ i) = true := decide_eq_true (by omega)
    go_enter Try.func9, Try.ntmps9
    go_wp2
    go_ret
    exact ⟨rfl, rfl⟩
theorem rlocalI (a : Option Addr) (n cap : Nat) (l : List M.I) (pc : Int) (hln : l.length = n) (hn : n ≤ 65536) (ok : ∀ x ∈ l, M.okI x) (w : World) (hl : Lies w a l) :
    Calls Try.prog 9 #[.slice a n cap, .int .i64 pc] w fun e w' => e = .returned (.int .i64 (M.locI l pc)) ∧ Below w.heap.size w w' := by
  by_cases ho : pc < 0 ∨ (l.length : Int) ≤ pc
  · rw [M.locI_out ho]
    exact (rlocal_out a n cap pc hn (by omega) w).mono fun e w' h => ⟨h.1, h.2 ▸ Below.refl _ _⟩
  · obtain ⟨p, rfl⟩ : ∃ p : Nat, pc = p := ⟨pc.toNat, by omega⟩
    have hpl : p < l.length := by omega
    obtain ⟨b, o, rfl, hly⟩ := hl.ly (by omega)
    rw [M.locI_at hpl, hln]
    exact rlocal_ly b o n cap p l hln hn hpl ok w hly
/-- the reference's Behind, wherever nothing is wrong alone -/
theorem rbehindI (a : Option Addr) (n cap : Nat) (l : List M.I) (pc : Int) (hln : l.length = n) (hn : n ≤ 65536) (ok : ∀ x ∈ l, M.okI x) (hz : M.locI l pc = 0) (js : List Nat) (hjs : M.nextJ l pc = js) (w : World) (hl : Lies w a l) :
    Calls Try.prog 10 #[.slice a n cap, .int .i64 pc] w fun e w' => ∃ a c, e = .returned (.slice a js.length c) ∧ Nx w' a js ∧ Below w.heap.size w w' := by
  have ho : ¬ (pc < 0 ∨ (l.length : Int) ≤ pc) := fun h => by rw [M.locI_out h] at hz; cases hz
  obtain ⟨p, rfl⟩ : ∃ p : Nat, pc = p := ⟨pc.toNat, by omega⟩
  have hpl : p < l.length := by omega
  obtain ⟨b, o, rfl, hly⟩ := hl.ly (by omega)
  unfold M.nextJ at hjs
  rw [if_pos hz, Int.toNat_natCast] at hjs
  exact (rbehind_ly b o n cap p l hln hn hpl ok w hly js hjs).mono fun e w' ⟨a, c, h1, h2, _, h3⟩ => ⟨a, c, h1, h2, h3⟩
theorem nextJ_len (l : List M.I) (i : Int) : (M.nextJ l i).length ≤ 2 := by
  unfold M.nextJ
  split
  · exact M.beh_len _ _
  · simp
set_option maxHeartbeats 6400000 in
set_option maxRecDepth 1000000 in
theorem tells_loop (a : Option Addr) (n cap : Nat) (l : List M.I) (hln : l.length = n) (hn : n ≤ 200) (ok : ∀ i ∈ l, M.okI i) (w : World) (hl : Lies w a l)
    (hAw : ∀ W, Awake W)
    (hNx : ∀ W, Lies W a l → ∀ i : Int, Calls Try.prog 12 #[.slice a n cap, .int .i64 i] W fun e w' => ∃ a' c', e = .returned (.slice a' (M.nextJ l i).length c') ∧ Nx w' a' (M.nextJ l i) ∧ Below W.heap.size W w')
    (hbad : M.rightB l = false)
    (hRe : ∀ W, Lies W a l → Calls Try.prog 13 #[.slice a n cap] W fun e w' => ∃ a' c', e = .returned (.slice a' 0 c') ∧ Below W.heap.size W w')
    (hIn : ∀ W, Lies W a l → Calls Try.prog 14 #[.slice a n cap] W fun e w' => ∃ a' c', e = .returned (.slice a' 0 c') ∧ Below W.heap.size W w')
    (hLg : ∀ W, Lies W a l → Calls Try.prog 15 #[.slice a n cap] W fun e w' => e = .returned (.tuple #[.int .i64 0, .int .i64 1]) ∧ Below W.heap.size W w')
    (hRt : ∀ W, Lies W a l → Calls Try.prog 16 #[.slice a n cap] W fun e w' => e = .returned (.bool false) ∧ Below W.heap.size W w') :
    Calls Try.prog 3 #[.slice a n cap] w fun e w' => e = .returned (.bool true) ∧ Below w.heap.size w w' := by
  have hd : decide (200 < (n : Int)) = false := decide_eq_false (by omega)
  have HB := hid (Below.refl w.heap.size w)
  have HAw := hid hAw
  have HNx := hid hNx
  have HRe := hid hRe
  have HIn := hid hIn
  have HLg := hid hLg
  have HRt := hid hRt
  have HH := hid (And.intro hln (And.intro ok hl))
  clear hAw hNx hRe hIn hLg hRt hln ok hl
  go_enter Try.func3, Try.ntmps3
  go_wp2_with fail
  refine (HAw.out _).mono ?_
  rintro e w1 ⟨rfl, hb⟩
  replace HB := stp HB hb
  clear hb
  go_wp2
  go_loopw [3] (fun i wr => ∃ k : Nat, k ≤ n + 2 ∧ i = .int .i64 ((k : Int) - 1) ∧ Hid (Below w.heap.size w wr)) (fun i _ => (n + 2 : Nat) - (intOf i + 1).toNat)
  case atStart => exact ⟨0, by omega, by go_num, HB.out⟩
  case round =>
    clear HB
    obtain ⟨k, hk, rfl, HB⟩ := hrel
    obtain ⟨i, hi⟩ : ∃ i : Int, (k : Int) - 1 = i := ⟨_, rfl⟩
    rw [hi]
    by_cases hle : k ≤ n + 1
    · have d1 : decide (i ≤ (n : Int)) = true := decide_eq_true (by omega)
      have hib : -1 ≤ i ∧ i ≤ 200 := by omega
      have HLo := hid (fun W (h : Lies W a l) => rlocalI a n cap l i HH.out.1 (by omega) HH.out.2.1 W h)
      obtain ⟨js, hjs⟩ : ∃ js, M.nextJ l i = js := ⟨_, rfl⟩
      have HN := hid (fun W h => HNx.out W h i)
      rw [hjs] at HN
      have hjl : js.length ≤ 100000 := by rw [← hjs]; have := nextJ_len l i; omega
      have HS := hid (fun (W : World) a1 a2 c1 c2 h1 h2 => same_ints a1 a2 js js js.length js.length c1 c2 rfl rfl hjl hjl W h1 h2)
      have hself : decide (js = js) = true := decide_eq_true rfl
      rw [hself] at HS
      have HI := hid (show (k : Int) - 1 = i ∧ k ≤ n + 1 from ⟨hi, hle⟩)
      by_cases hz : M.locI l i = 0
      · have HBe := hid (fun W h => rbehindI a n cap l i HH.out.1 (by omega) HH.out.2.1 hz js hjs W h)
        rw [hz] at HLo
        clear hjs hself hi hle hz
        go_wp2_with fail
        refine (HLo.out _ (HH.out.2.2.below HB.out)).mono ?_
        rintro e w2 ⟨rfl, hb⟩
        replace HB := stp HB hb
        clear hb
        go_wp2_with fail
        refine (HBe.out _ (HH.out.2.2.below HB.out)).mono ?_
        rintro e w3 ⟨a2, c2, rfl, hx2, hb⟩
        replace HB := stp HB hb
        have HX2 := hid hx2
        clear hb hx2
        go_wp2_with fail
        refine (HN.out _ (HH.out.2.2.below HB.out)).mono ?_
        rintro e w4 ⟨a1, c1, rfl, hx1, hb⟩
        replace HB := stp HB hb
        replace HX2 := hid (HX2.out.below hb)
        have HX1 := hid hx1
        clear hb hx1
        go_wp2_with fail
        refine (HS.out _ _ _ _ _ HX1.out HX2.out).mono ?_
        rintro e w5 ⟨rfl, hb⟩
        replace HB := stp HB hb
        clear hb
        go_wp2
        go_roundw
        case rel => exact ⟨k + 1, by have := HI.out.2; omega, by have := HI.out.1; go_num, HB.out⟩
        case measure => have := HI.out; simp [intOf]; omega
      · have hnil : js = [] := by rw [← hjs]; unfold M.nextJ; rw [if_neg hz]
        have dz : (M.locI l i == 0) = false := by simpa using hz
        obtain ⟨z, hzz⟩ : ∃ z, M.locI l i = z := ⟨_, rfl⟩
        rw [hzz] at HLo dz
        have HNil := hid hnil
        clear hjs hself hi hle hz hzz hnil
        go_wp2_with fail
        refine (HLo.out _ (HH.out.2.2.below HB.out)).mono ?_
        rintro e w2 ⟨rfl, hb⟩
        replace HB := stp HB hb
        clear hb
        go_wp2_with fail
        refine (HN.out _ (HH.out.2.2.below HB.out)).mono ?_
        rintro e w4 ⟨a1, c1, rfl, hx1, hb⟩
        replace HB := stp HB hb
        have HX1 := hid hx1
        clear hb hx1
        rw [HNil.out] at HX1 HS ⊢
        go_wp2_with fail
        refine (HS.out _ _ _ _ _ HX1.out (.inl rfl)).mono ?_
        rintro e w5 ⟨rfl, hb⟩
        replace HB := stp HB hb
        clear hb
        go_wp2
        go_roundw
        case rel => exact ⟨k + 1, by have := HI.out.2; omega, by have := HI.out.1; go_num, HB.out⟩
        case measure => have := HI.out; simp [intOf]; omega
    · have d1 : decide (i ≤ (n : Int)) = false := decide_eq_false (by omega)
      clear hi hle
      go_wp2_with fail
      refine (HRe.out _ (HH.out.2.2.below HB.out)).mono ?_
      rintro e w2 ⟨a1, c1, rfl, hb⟩
      replace HB := stp HB hb
      clear hb
      go_wp2_with fail
      refine (HIn.out _ (HH.out.2.2.below HB.out)).mono ?_
      rintro e w3 ⟨a2, c2, rfl, hb⟩
      replace HB := stp HB hb
      clear hb
      go_wp2_with fail
      refine (HLg.out _ (HH.out.2.2.below HB.out)).mono ?_
      rintro e w4 ⟨rfl, hb⟩
      replace HB := stp HB hb
      clear hb
      go_wp2_with fail
      refine (HRt.out _ (HH.out.2.2.below HB.out)).mono ?_
      rintro e w5 ⟨rfl, hb⟩
      replace HB := stp HB hb
      clear hb
      go_wp2
      go_ret
      exact ⟨rfl, HB.out⟩

set_option maxHeartbeats 6400000 in
set_option maxRecDepth 1000000 in
theorem tells_good (b o n cap : Nat) (l : List M.I) (hln : l.length = n) (hn : n ≤ 200) (ok : ∀ i ∈ l, M.okI i) (hr : M.right l) (w : World) (hl0 : Ly w b o l)
    (hAw : ∀ W, Awake W)
    (hNx : ∀ W, Lies W (some ⟨b, o, none⟩) l → ∀ i : Int, Calls Try.prog 12 #[.slice (some ⟨b, o, none⟩) n cap, .int .i64 i] W fun e w' => ∃ a' c', e = .returned (.slice a' (M.nextJ l i).length c') ∧ Nx w' a' (M.nextJ l i) ∧ Below W.heap.size W w')
    (hRe : ∀ W, Lies W (some ⟨b, o, none⟩) l → Calls Try.prog 13 #[.slice (some ⟨b, o, none⟩) n cap] W fun e w' => ∃ g c, e = .returned (.slice (some ⟨g, 0, none⟩) n c) ∧ Row w' g n (fun j => .bool (M.rch l j)) ∧ Below W.heap.size W w')
    (hIn : ∀ W, Lies W (some ⟨b, o, none⟩) l → Calls Try.prog 14 #[.slice (some ⟨b, o, none⟩) n cap] W fun e w' => ∃ g c, e = .returned (.slice (some ⟨g, 0, none⟩) n c) ∧ Row w' g n (fun j => .int .i64 ((M.into l j : Nat) : Int)) ∧ Below W.heap.size W w')
    (hLg : ∀ W, Lies W (some ⟨b, o, none⟩) l → Calls Try.prog 15 #[.slice (some ⟨b, o, none⟩) n cap] W fun e w' => e = .returned (.tuple #[.int .i64 ((M.far l 0 : Nat) : Int), .int .i64 0]) ∧ Below W.heap.size W w')
    (hRt : ∀ W, Lies W (some ⟨b, o, none⟩) l → Calls Try.prog 16 #[.slice (some ⟨b, o, none⟩) n cap] W fun e w' => e = .returned (.bool true) ∧ Below W.heap.size W w') :
    Calls Try.prog 3 #[.slice (some ⟨b, o, none⟩) n cap] w fun e w' => e = .returned (.bool true) ∧ Below w.heap.size w w' := by
  have hd : decide (200 < (n : Int)) = false := decide_eq_false (by omega)
  have HB := hid (Below.refl w.heap.size w)
  have HAw := hid hAw
  have HNx := hid hNx
  have HRe := hid hRe
  have HIn := hid hIn
  have HLg := hid hLg
  have HRt := hid hRt
  have hl := hl0.lies
  have HH := hid (And.intro hln (And.intro ok hl))
  have HRR := hid (fun W (h : Ly W b o l) => rreached_any b o n cap l hln (by rw [← hln]; exact ((M.right_iff l).1 hr).1.1) (by omega) ok W h)
  have HRI := hid (fun W (h : Ly W b o l) => rinto_any b o n cap l hln (by omega) ok hr W h)
  have HRL := hid (fun W (h : Ly W b o l) => rlongest_any b o n cap l hln (by omega) ok hr W h)
  have HLy := hid hl0
  clear hAw hNx hRe hIn hLg hRt hln ok hl hl0 hr
  go_enter Try.func3, Try.ntmps3
  go_wp2_with fail
  refine (HAw.out _).mono ?_
  rintro e w1 ⟨rfl, hb⟩
  replace HB := stp HB hb
  clear hb
  go_wp2
  go_loopw [3] (fun i wr => ∃ k : Nat, k ≤ n + 2 ∧ i = .int .i64 ((k : Int) - 1) ∧ Hid (Below w.heap.size w wr)) (fun i _ => (n + 2 : Nat) - (intOf i + 1).toNat)
  case atStart => exact ⟨0, by omega, by go_num, HB.out⟩
  case round =>
    clear HB
    obtain ⟨k, hk, rfl, HB⟩ := hrel
    obtain ⟨i, hi⟩ : ∃ i : Int, (k : Int) - 1 = i := ⟨_, rfl⟩
    rw [hi]
    by_cases hle : k ≤ n + 1
    · have d1 : decide (i ≤ (n : Int)) = true := decide_eq_true (by omega)
      have hib : -1 ≤ i ∧ i ≤ 200 := by omega
      have HLo := hid (fun W (h : Lies W (some ⟨b, o, none⟩) l) => rlocalI (some ⟨b, o, none⟩) n cap l i HH.out.1 (by omega) HH.out.2.1 W h)
      obtain ⟨js, hjs⟩ : ∃ js, M.nextJ l i = js := ⟨_, rfl⟩
      have HN := hid (fun W h => HNx.out W h i)
      rw [hjs] at HN
      have hjl : js.length ≤ 100000 := by rw [← hjs]; have := nextJ_len l i; omega
      have HS := hid (fun (W : World) a1 a2 c1 c2 h1 h2 => same_ints a1 a2 js js js.length js.length c1 c2 rfl rfl hjl hjl W h1 h2)
      have hself : decide (js = js) = true := decide_eq_true rfl
      rw [hself] at HS
      have HI := hid (show (k : Int) - 1 = i ∧ k ≤ n + 1 from ⟨hi, hle⟩)
      by_cases hz : M.locI l i = 0
      · have HBe := hid (fun W h => rbehindI (some ⟨b, o, none⟩) n cap l i HH.out.1 (by omega) HH.out.2.1 hz js hjs W h)
        rw [hz] at HLo
        clear hjs hself hi hle hz
        go_wp2_with fail
        refine (HLo.out _ (HH.out.2.2.below HB.out)).mono ?_
        rintro e w2 ⟨rfl, hb⟩
        replace HB := stp HB hb
        clear hb
        go_wp2_with fail
        refine (HBe.out _ (HH.out.2.2.below HB.out)).mono ?_
        rintro e w3 ⟨a2, c2, rfl, hx2, hb⟩
        replace HB := stp HB hb
        have HX2 := hid hx2
        clear hb hx2
        go_wp2_with fail
        refine (HN.out _ (HH.out.2.2.below HB.out)).mono ?_
        rintro e w4 ⟨a1, c1, rfl, hx1, hb⟩
        replace HB := stp HB hb
        replace HX2 := hid (HX2.out.below hb)
        have HX1 := hid hx1
        clear hb hx1
        go_wp2_with fail
        refine (HS.out _ _ _ _ _ HX1.out HX2.out).mono ?_
        rintro e w5 ⟨rfl, hb⟩
        replace HB := stp HB hb
        clear hb
        go_wp2
        go_roundw
        case rel => exact ⟨k + 1, by have := HI.out.2; omega, by have := HI.out.1; go_num, HB.out⟩
        case measure => have := HI.out; simp [intOf]; omega
      · have hnil : js = [] := by rw [← hjs]; unfold M.nextJ; rw [if_neg hz]
        have dz : (M.locI l i == 0) = false := by simpa using hz
        obtain ⟨z, hzz⟩ : ∃ z, M.locI l i = z := ⟨_, rfl⟩
        rw [hzz] at HLo dz
        have HNil := hid hnil
        clear hjs hself hi hle hz hzz hnil
        go_wp2_with fail
        refine (HLo.out _ (HH.out.2.2.below HB.out)).mono ?_
        rintro e w2 ⟨rfl, hb⟩
        replace HB := stp HB hb
        clear hb
        go_wp2_with fail
        refine (HN.out _ (HH.out.2.2.below HB.out)).mono ?_
        rintro e w4 ⟨a1, c1, rfl, hx1, hb⟩
        replace HB := stp HB hb
        have HX1 := hid hx1
        clear hb hx1
        rw [HNil.out] at HX1 HS ⊢
        go_wp2_with fail
        refine (HS.out _ _ _ _ _ HX1.out (.inl rfl)).mono ?_
        rintro e w5 ⟨rfl, hb⟩
        replace HB := stp HB hb
        clear hb
        go_wp2
        go_roundw
        case rel => exact ⟨k + 1, by have := HI.out.2; omega, by have := HI.out.1; go_num, HB.out⟩
        case measure => have := HI.out; simp [intOf]; omega
    · have d1 : decide (i ≤ (n : Int)) = false := decide_eq_false (by omega)
      clear hi hle
      go_wp2_with fail
      refine (HRe.out _ (HH.out.2.2.below HB.out)).mono ?_
      rintro e w2 ⟨g1, c1, rfl, hx1, hb⟩
      replace HB := stp HB hb
      have HX1 := hid hx1
      clear hb hx1
      go_wp2_with fail
      refine (HIn.out _ (HH.out.2.2.below HB.out)).mono ?_
      rintro e w3 ⟨g2, c2, rfl, hx2, hb⟩
      replace HB := stp HB hb
      replace HX1 := hid (HX1.out.below hb)
      have HX2 := hid hx2
      clear hb hx2
      go_wp2_with fail
      refine (HLg.out _ (HH.out.2.2.below HB.out)).mono ?_
      rintro e w4 ⟨rfl, hb⟩
      replace HB := stp HB hb
      replace HX1 := hid (HX1.out.below hb)
      replace HX2 := hid (HX2.out.below hb)
      clear hb
      go_wp2_with fail
      refine (HRt.out _ (HH.out.2.2.below HB.out)).mono ?_
      rintro e w5 ⟨rfl, hb⟩
      replace HB := stp HB hb
      replace HX1 := hid (HX1.out.below hb)
      replace HX2 := hid (HX2.out.below hb)
      clear hb
      go_wp2_with fail
      refine (HRR.out _ (HLy.out.below HB.out)).mono ?_
      rintro e w6 ⟨g3, rfl, hx3, hb, _⟩
      replace HB := stp HB hb
      replace HX1 := hid (HX1.out.below hb)
      replace HX2 := hid (HX2.out.below hb)
      have HX3 := hid hx3
      clear hb hx3
      have hnn : ((n : Int) != (n : Int)) = false := by simp
      go_wp2
      go_loopw [75] (fun i wr => ∃ k q : Nat, k ≤ n ∧ i = .int .i64 k ∧ wr = w6.drewN q) (fun i _ => n - (intOf i).toNat)
      case atStart => exact ⟨0, 0, Nat.zero_le _, rfl, rfl⟩
      case round =>
        obtain ⟨p, q, hp, rfl, rfl⟩ := hrel
        by_cases hlt : p < n
        · have i1 : (p : Int) < (n : Int) := by omega
          have e1 := HX1.out.cell p hlt
          have e2 := HX3.out.cell p hlt
          obtain ⟨x, hx⟩ : ∃ x, M.rch l p = x := ⟨_, rfl⟩
          rw [hx] at e1 e2
          have hxx : (x != x) = false := by simp
          clear hx
          go_wp2
          go_quiet (fail)
          go_wp2
          go_roundw
          case rel => exact ⟨p + 1, _, by omega, by go_num, rfl⟩
          case measure => simp [intOf]; omega
        · obtain rfl : p = n := by omega
          have HBd := hid (bdrew HB.out q)
          have HX2d := hid (HX2.out.drewN q)
          obtain ⟨Wd, hWd⟩ : ∃ Wd, w6.drewN q = Wd := ⟨_, rfl⟩
          rw [hWd] at HBd HX2d ⊢
          clear hWd HB HX1 HX2 HX3
          go_wp2_with fail
          refine (HRI.out _ (HLy.out.below HBd.out)).mono ?_
          rintro e w7 ⟨g4, rfl, hx4, hb, _⟩
          replace HBd := stp HBd hb
          replace HX2d := hid (HX2d.out.below hb)
          have HS := hid (same_ints (some ⟨g2, 0, none⟩) (some ⟨g4, 0, none⟩) ((List.range p).map (M.into l)) ((List.range p).map (M.into l)) p p c2 p (by simp) (by simp) (by omega) (by omega) w7 (row_nx HX2d.out) (row_nx hx4))
          rw [decide_eq_true rfl] at HS
          clear hb hx4
          go_wp2_with fail
          refine HS.out.mono ?_
          rintro e w8 ⟨rfl, hb⟩
          replace HBd := stp HBd hb
          clear hb HS
          go_wp2_with fail
          refine (HRL.out _ (HLy.out.below HBd.out)).mono ?_
          rintro e w9 ⟨rfl, hb⟩
          replace HBd := stp HBd hb
          clear hb
          go_wp2
          go_ret
          exact ⟨rfl, HBd.out⟩
end Go.Proofs.Ythfneidbaiebhaa.B
