/-
  The walk of one statement: what Check, Right and Local answer is what the reference says.
-/
import Derived.Test.YtcojhfppipdfoaaVerAwake
namespace Go.Proofs.Ytcojhfppipdfoaa.B
open Go.ChangeShapes Go.WideShapes Go.ChangeAt Go.RowKit
open Go.Sort hiding Below
set_option linter.unusedVariables false

theorem append_none (a : Option Addr) (cap : Nat) (H ty : Nat) (W : World) : (Builtin.append_ #[22, 22] ty #[.slice (some ⟨H, 0, none⟩) 0 0, .slice a 0 cap]).run Try.prog W = .ok (.slice (some ⟨H, 0, none⟩) 0 0) W := by
  obtain ⟨i0, hi, hz0, hz1, hz2⟩ := info_parts info39
  cases a <;> simp [Builtin.append_, run_underlying Try.underlying22, sizeOf, typeInfo, hi, Builtin.lenOf, Builtin.firstCells, storeCells, loadCells, loadCellsFrom]

theorem wpList_append_none {ops : Array Oper} {rest : List Oper} {oo : Oper} {a : Act} {w : World} {Q : Exit → Act → World → Prop} (hgd : oo.guard = none) (s x : Operand)
    (ho : oo.op = .call { callee := .builtin .append, args := #[s, x], argTypes := #[22, 22] }) (H cap : Nat) (ad : Option Addr) (hs : a.eval s = .slice (some ⟨H, 0, none⟩) 0 0) (hx : a.eval x = .slice ad 0 cap)
    (h : wpList Try.prog ops Q rest (a.put oo.dst (.slice (some ⟨H, 0, none⟩) 0 0)) w) : wpList Try.prog ops Q (oo :: rest) a w :=
  wpList_plain hgd fun _ hK => by
    have hr := append_none ad cap H oo.type w
    unfold Oper.wp execOp
    simp only [ho, resolve, invoke, builtin, Sem.run_bind, Sem.run_pure, Result.andThen_ok, List.map_toArray, List.map_cons, List.map_nil, hs, hx, hr]
    exact hK _ _ h


set_option maxHeartbeats 3200000 in
set_option maxRecDepth 1000000 in
theorem lawC_skip (a : Option Addr) (n cap : Nat) (w : World) (hb : n ≤ 9223372036854775807) (h : 300 < n) :
    Calls Try.prog 3 #[.slice a n cap] w fun e w' => e = .returned (.bool true) ∧ Below w.heap.size w w' := by
  have c1 : decide ((300 : Int) < (n : Int)) = true := decide_eq_true (by omega)
  have HB := hid (Below.refl w.heap.size w)
  go_enter Try.func3, Try.ntmps3
  go_wp2_with (go_at_call 9; refine (awake_any _).mono ?_; rintro e w1 ⟨rfl, hb⟩; replace HB := stp HB hb; clear hb)
  go_ret
  exact ⟨rfl, HB.out⟩

set_option maxHeartbeats 3200000 in
set_option maxRecDepth 1000000 in
theorem lawC_main (b o n cap : Nat) (l : List M.I) (hln : l.length = n) (h0 : 0 < n) (hn : n ≤ 300) (ok : ∀ i ∈ l, M.okI i) (w : World) (hl : Ly w b o l) :
    Calls Try.prog 3 #[.slice (some ⟨b, o, none⟩) n cap] w fun e w' => e = .returned (.bool true) ∧ Below w.heap.size w w' := by
  obtain ⟨i0, hi, hz0, hz1, hz2⟩ := info_parts info39
  have c1 : decide ((300 : Int) < (n : Int)) = false := decide_eq_false (by omega)
  have HB := hid (Below.refl w.heap.size w)
  obtain ⟨⟨p, e0⟩, hp⟩ : ∃ x, M.check l = x := ⟨_, rfl⟩
  have hr : M.rightB l = (e0 == 0) := by unfold M.rightB; rw [hp]
  have HC := hid (fun g cap w hl => check_any (some ⟨g, 0, none⟩) n cap l hln (by omega) ok w hl p e0 hp)
  have HRf := hid (fun w hl => rcheck_any (some ⟨b, o, none⟩) n cap l hln (by omega) ok w hl p e0 hp)
  have HRt := hid (fun w hl => right_any (some ⟨b, o, none⟩) n cap l hln (by omega) ok w hl (e0 == 0) hr)
  have HH := hid (And.intro hln (And.intro ok hl))
  clear hln ok hl hp hr
  go_enter Try.func3, Try.ntmps3
  go_wp2_with fail
  refine (awake_any _).mono ?_
  rintro e w1 ⟨rfl, hb⟩
  replace HB := stp HB hb
  have HL := hid (HH.out.2.2.below HB.out)
  clear hb
  go_wp2_with (at_builtin; refine wpList_append_lies _ rfl _ _ 22 rfl w1.heap.size 38 i0 (.agg #[.int .u16 0, .int .u8 0, .int .u8 0, .int .u32 0]) 4 8 Try.underlying22 hi hz0 hz1 hz2 rfl (by decide) _ 0 _ rfl (own_empty w1) ⟨b, o, none⟩ n cap (i4s l) rfl ?c0 ?c1 ?c2 h0 ?c3 ?c4 ?c5 (w1.heap.size + 1) ?c6 ?_)
  case c0 => rw [i4s_len, HH.out.1]
  case c1 => exact lies_cells (HL.out.lies.below (al _ _))
  case c2 => exact i4s_one l
  case c3 => unfold maxLen; omega
  case c4 => omega
  case c5 => simp
  case c6 => simp
  intro g cap2 w2 hown2 hgrow hat hlt2
  have hB2 : Below w1.heap.size w1 w2 := ((Below.refl _ _).alloc (Nat.le_refl _) _).grown hgrow (by simp) (by intro k hk; simp [Value.ownBlock] at hk; omega)
  have HL2 := hid (show Lies w2 (some ⟨g, 0, none⟩) l from lies_of_own hown2 (by rw [HH.out.1]))
  replace HB := stp HB hB2
  clear hown2 hgrow hat hlt2 hB2 HL
  go_wp2_with fail
  refine (HC.out _ _ _ HL2.out).mono ?_
  rintro e w3 ⟨rfl, hb⟩
  replace HB := stp HB hb
  clear hb HL2
  go_wp2_with fail
  refine (HRf.out _ (HH.out.2.2.below HB.out).lies).mono ?_
  rintro e w4 ⟨rfl, hb⟩
  replace HB := stp HB hb
  clear hb
  go_wp2_with fail
  refine (HRt.out _ (HH.out.2.2.below HB.out).lies).mono ?_
  rintro e w5 ⟨rfl, hb⟩
  replace HB := stp HB hb
  clear hb
  go_wp2
  go_loopw [45] (fun i wr => ∃ k : Nat, k ≤ n ∧ i = .int .i64 k ∧ Hid (Below w.heap.size w wr)) (fun i _ => n - (intOf i).toNat)
  case atStart => exact ⟨0, Nat.zero_le _, rfl, HB⟩
  case round =>
    clear HB HC HRf HRt
    obtain ⟨k, hk, rfl, HR⟩ := hrel
    by_cases hlt : k < n
    · have i1 : (k : Int) < (n : Int) := by omega
      have hkl : k < l.length := by rw [HH.out.1]; exact hlt
      have HC := hid (fun w hl => local_ly b o n cap k l HH.out.1 (by omega) hkl HH.out.2.1 w hl)
      have HC2 := hid (fun w hl => rlocal_ly b o n cap k l HH.out.1 (by omega) hkl HH.out.2.1 w hl)
      generalize M.loc n k l[k] = x at *
      go_wp2_with (first
        | (go_at_call 13; refine (HC.out _ (HH.out.2.2.below HR.out)).mono ?_; rintro e w1 ⟨rfl, hb⟩; have HR2 := stp HR hb; clear hb)
        | (go_at_call 14; refine (HC2.out _ (HH.out.2.2.below HR2.out)).mono ?_; rintro e w1 ⟨rfl, hb⟩; have HR3 := stp HR2 hb; clear hb))
      go_roundw
      case rel => exact ⟨k + 1, by omega, by go_num, HR3⟩
      case measure => simp [intOf]; omega
    · obtain rfl : k = n := by omega
      go_wp2_with fail
      refine (local_out _ _ _ _ (by omega) (by omega) _).mono ?_
      rintro e w1 ⟨rfl, rfl⟩
      go_wp2_with fail
      refine (local_out _ _ _ _ (by omega) (by omega) _).mono ?_
      rintro e w1 ⟨rfl, rfl⟩
      go_wp2
      go_ret
      exact ⟨rfl, HR.out⟩

set_option maxHeartbeats 3200000 in
set_option maxRecDepth 1000000 in
theorem lawC_nil (a : Option Addr) (cap : Nat) (w : World) :
    Calls Try.prog 3 #[.slice a 0 cap] w fun e w' => e = .returned (.bool true) ∧ Below w.heap.size w w' := by
  have HB := hid (Below.refl w.heap.size w)
  go_enter Try.func3, Try.ntmps3
  go_wp2_with fail
  refine (awake_any _).mono ?_
  rintro e w1 ⟨rfl, hb⟩
  replace HB := stp HB hb
  clear hb
  go_wp2_with (at_builtin; refine wpList_append_none rfl _ _ rfl w1.heap.size cap a rfl rfl ?_)
  refine (check_any _ 0 _ [] rfl (by omega) (by simp) _ (.inl rfl) 0 4 aw5).mono ?_
  rintro e w3 ⟨rfl, hb⟩
  replace HB := al_stp HB hb
  clear hb
  go_wp2_with fail
  refine (rcheck_nil a cap _).mono ?_
  rintro e w4 ⟨rfl, hb⟩
  replace HB := stp HB hb
  clear hb
  go_wp2_with fail
  refine (right_any a 0 cap [] rfl (by omega) (by simp) _ (.inl rfl) false (by decide +kernel)).mono ?_
  rintro e w5 ⟨rfl, hb⟩
  replace HB := stp HB hb
  clear hb
  go_wp2
  go_loopw [45] (fun i wr => i = .int .i64 0 ∧ wr = w5) (fun i _ => 0)
  case atStart => exact ⟨rfl, rfl⟩
  case round =>
    obtain ⟨rfl, rfl⟩ := hrel
    go_wp2_with fail
    refine (local_out _ _ _ _ (by omega) (by omega) _).mono ?_
    rintro e w1 ⟨rfl, rfl⟩
    go_wp2_with fail
    refine (local_out _ _ _ _ (by omega) (by omega) _).mono ?_
    rintro e w1 ⟨rfl, rfl⟩
    go_wp2
    go_ret
    exact ⟨rfl, HB.out⟩

theorem lawC (a : Option Addr) (n cap : Nat) (l : List M.I) (hln : l.length = n) (hm : n ≤ 9223372036854775807) (ok : ∀ i ∈ l, M.okI i) (w : World) (hl : Lies w a l) :
    Calls Try.prog 3 #[.slice a n cap] w fun e w' => e = .returned (.bool true) ∧ Below w.heap.size w w' := by
  by_cases h : 300 < n
  · exact lawC_skip a n cap w hm h
  · by_cases h0 : n = 0
    · subst h0; exact lawC_nil a cap w
    · obtain ⟨b, o, rfl, hly⟩ := hl.ly (by omega)
      exact lawC_main b o n cap l hln (by omega) (by omega) ok w hly
end Go.Proofs.Ytcojhfppipdfoaa.B
