/-
  Check, Right and Written, as walks over the Go text.
-/
import Derived.Test.YtfmlefadifpocaaH3
namespace Go.Proofs.Ytfmlefadifpocaa.M
theorem lnE_ok {n : Nat} (h : lnE n = 0) : 0 < n ∧ n ≤ 4096 := by
  unfold lnE at h
  split at h
  · simp at h
  · split at h
    · simp at h
    · omega
def rightB (l : List I) : Bool := (check l).2 == 0
theorem right_of {l : List I} : rightB l = true ↔ right l := by
  unfold rightB right
  rw [beq_iff_eq]
  constructor
  · intro h
    by_cases h1 : lnE l.length = 0
    · by_cases h2 : (wa l).2 = 0
      · rw [check_end h1 h2] at h ⊢
        split at h
        · simp at h
        · rename_i hr
          rw [if_neg hr]
          unfold ua at *
          split at h
          · simp at h
          · rfl
      · rw [check_alone h1 h2] at h; exact absurd h h2
    · rw [check_short h1] at h; exact absurd h h1
  · intro h; rw [h]
theorem ends_rets (c t f k : Int) : ends c = rets (c, t, f, k) := rfl
end Go.Proofs.Ytfmlefadifpocaa.M
namespace Go.Proofs.Ytfmlefadifpocaa.B
open Go.ChangeShapes Go.WideShapes Go.ChangeAt Go.RowKit
open Go.Sort hiding Below
set_option linter.unusedVariables false

theorem Lies.ly {w : World} {a : Option Addr} {l : List M.I} (h : Lies w a l) (h0 : 0 < l.length) : ∃ b o, a = some ⟨b, o, none⟩ ∧ Ly w b o l := by
  rcases h with h | ⟨b, o, e, h1, h2⟩
  · rw [h] at h0; simp at h0
  · exact ⟨b, o, e, h1, h2⟩

set_option maxHeartbeats 1600000 in
set_option maxRecDepth 100000 in
theorem check_any (a : Option Addr) (n cap : Nat) (l : List M.I) (hln : l.length = n) (hn : n ≤ 9223372036854775807) (ok : ∀ i ∈ l, M.okI i) (w : World) (hl : Lies w a l) (p : Nat) (e0 : Int) (hp : M.check l = (p, e0)) :
    Calls Try.prog 27 #[.slice a n cap] w fun e w' => e = .returned (.tuple #[.int .i64 (p : Int), .int .i64 e0]) ∧ Below w.heap.size w w' := by
  have HC1 := hid (fun w => length_any a n cap hn w)
  by_cases h1 : M.lnE n = 0
  · obtain ⟨h0, h4⟩ := M.lnE_ok h1
    obtain ⟨b, o, rfl, hly⟩ := hl.ly (by omega)
    rw [h1] at HC1
    obtain ⟨⟨p1, e1⟩, hwa⟩ : ∃ x, M.wa l = x := ⟨_, rfl⟩
    have HC2 := hid (fun w hl => wrongAlone_any b o n cap l hln (by omega) ok w hl p1 e1 hwa)
    by_cases h2 : e1 = 0
    · subst h2
      have ha : ∀ j, j < l.length → M.wrong l j = false := M.wa_zero (by rw [hwa])
      have hck := M.check_end (l := l) (by rw [hln]; exact h1) (by rw [hwa])
      rw [hp] at hck
      obtain ⟨m, rfl⟩ : ∃ m, n = m + 1 := ⟨n - 1, by omega⟩
      have hml : m < l.length := by omega
      have e9 : l.getD (l.length - 1) (0, 0, 0, 0) = l[m] := by
        rw [hln, List.getD_eq_getElem?_getD, show m + 1 - 1 = m by omega, List.getElem?_eq_getElem hml]; rfl
      rw [e9] at hck
      have i1 : ((m + 1 : Nat) : Int) - 1 = (m : Int) := by omega
      have i2 : (m : Int) < ((m + 1 : Nat) : Int) := by omega
      have hCu := fun w hl p e hp => unwritten_any b o (m + 1) cap l hln h0 (by omega) ok ha w hl p e hp
      have HU := hid hCu
      have HL := hid hly
      have HQ := hid (fun w' (hb : Below w.heap.size w w') => (hly.below hb).2 m hml)
      clear hly ok ha hCu hwa e9
      generalize l[m] = x at *
      obtain ⟨c, t, f, k⟩ := x
      rw [hln, show m + 1 - 1 = m by omega] at hck
      rw [← M.ends_rets] at hck
      have HK := hid hck
      clear hck hp hl
      rcases hz : M.ends c with _ | _
      · have HP := hid (show p = m ∧ e0 = 12 by
          have := HK.out
          rw [if_pos hz] at this
          simpa using this)
        go_enter Try.func27, Try.ntmps27
        go_wp2_with fail
        refine (HC1.out _).mono ?_
        rintro e w1 ⟨rfl, rfl⟩
        go_wp2_with fail
        refine (HC2.out _ HL.out).mono ?_
        rintro e w2 ⟨rfl, hb⟩
        have HB := hid hb
        obtain ⟨q0, q1, q2, q3⟩ := HQ.out _ hb
        simp only at q0 q1 q2 q3
        clear hb
        go_wp2_with (go_at_call 38; refine (ends_any _ _).mono ?_; rintro e w3 ⟨rfl, rfl⟩)
        go_ret2
        exact ⟨by rw [HP.out.1, HP.out.2]; rfl, HB.out⟩
      · have HP : Hid (M.ua l = (p, e0)) := by
          have := HK.out
          rw [if_neg (by rw [hz]; simp)] at this
          exact this.symm
        go_enter Try.func27, Try.ntmps27
        go_wp2_with fail
        refine (HC1.out _).mono ?_
        rintro e w1 ⟨rfl, rfl⟩
        go_wp2_with fail
        refine (HC2.out _ HL.out).mono ?_
        rintro e w2 ⟨rfl, hb⟩
        have HB := hid hb
        obtain ⟨q0, q1, q2, q3⟩ := HQ.out _ hb
        simp only at q0 q1 q2 q3
        clear hb
        go_wp2_with (first
          | (go_at_call 38; refine (ends_any _ _).mono ?_; rintro e w3 ⟨rfl, rfl⟩)
          | (go_at_call 39; refine (HU.out _ (HL.out.below HB.out) _ _ HP.out).mono ?_; rintro e w4 ⟨rfl, hb⟩; replace HB := stp HB hb; clear hb))
        go_ret2
        exact ⟨rfl, HB.out⟩
    · have hck := M.check_alone (l := l) (by rw [hln]; exact h1) (by rw [hwa]; exact h2)
      rw [hp, hwa] at hck
      have HP := hid (show p = p1 ∧ e0 = e1 by simpa using hck)
      have hz : (e1 != 0) = true := by simpa using h2
      have HL := hid hly
      clear hly hck hwa hp h2 ok hl
      go_enter Try.func27, Try.ntmps27
      go_wp2_with fail
      refine (HC1.out _).mono ?_
      rintro e w1 ⟨rfl, rfl⟩
      go_wp2_with fail
      refine (HC2.out _ HL.out).mono ?_
      rintro e w2 ⟨rfl, hb⟩
      have HB := hid hb
      clear hb
      go_wp2
      go_ret2
      exact ⟨by rw [HP.out.1, HP.out.2]; rfl, HB.out⟩
  · have hck := M.check_short (l := l) (by rw [hln]; exact h1)
    rw [hp, hln] at hck
    have HP := hid (show p = 0 ∧ e0 = M.lnE n by simpa using hck)
    have hz : (M.lnE n != 0) = true := by simpa using h1
    clear hck hp h1 ok hl
    go_enter Try.func27, Try.ntmps27
    go_wp2_with fail
    refine (HC1.out _).mono ?_
    rintro e w1 ⟨rfl, rfl⟩
    go_wp2
    go_ret2
    exact ⟨by rw [HP.out.1, HP.out.2]; rfl, Below.refl _ _⟩

set_option maxHeartbeats 1600000 in
set_option maxRecDepth 100000 in
theorem right_any (a : Option Addr) (n cap : Nat) (l : List M.I) (hln : l.length = n) (hn : n ≤ 9223372036854775807) (ok : ∀ i ∈ l, M.okI i) (w : World) (hl : Lies w a l) (r : Bool) (hr : M.rightB l = r) :
    Calls Try.prog 18 #[.slice a n cap] w fun e w' => e = .returned (.bool r) ∧ Below w.heap.size w w' := by
  obtain ⟨⟨p, e0⟩, hp⟩ : ∃ x, M.check l = x := ⟨_, rfl⟩
  have hC := check_any a n cap l hln hn ok w hl p e0 hp
  have HR : Hid ((e0 == 0) = r) := by unfold M.rightB at hr; rw [hp] at hr; exact hr
  clear hr hp hl ok
  go_enter Try.func18, Try.ntmps18
  go_wp2_with fail
  refine hC.mono ?_
  clear hC
  rintro e w1 ⟨rfl, hb⟩
  have HB := hid hb
  clear hb
  go_wp2
  go_ret
  exact ⟨by rw [← HR.out]; rfl, HB.out⟩

end Go.Proofs.Ytfmlefadifpocaa.B
