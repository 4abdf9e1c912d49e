/-
  Plain mathematics of layer 13: what the rules tell of what is asked of two trees; that it is so just where what was asked is; turned; told again.
-/
import Derived.Test.YtkeigicobcjleabS1
namespace Go.Proofs.Ytkeigicobcjleab.TM
set_option linter.unusedVariables false
set_option maxRecDepth 100000
/-- what is told: open (1), always (2), never (3); of the open one what is asked (op), of what (two trees), turned or not -/
abbrev At := Nat × Int × Tr × Tr × Bool
def knB (b n : Bool) : At := (if (b != n) = true then 2 else 3, 0, .num 0, .num 0, false)
def opA (op : Int) (s t : Tr) (n : Bool) : At := (1, op, s, t, n)
def csetT : Tr → Int → Bool → At
  | .num i, k, n => knB (WM.ask 64 i k) n
  | .mulL o (.add x (.num j)), k, n =>
    if k = 0 then knB false n
    else if k = 4294967295 then (if o = 80 then csetT x j n else opA 16 (op2 o x (.num j)) (.num 0) (!n))
    else if o = 80 then csetT x (told 80 j k) n else opA 64 (op2 o x (.num j)) (.num k) n
  | t, k, n => if k = 0 then knB false n else if k = 4294967295 then opA 16 t (.num 0) (!n) else opA 64 t (.num k) n
def ceqT : Tr → Int → Bool → At
  | .num i, k, n => knB (i == k) n
  | .mulL o (.add x (.num j)), k, n => if o = 80 then (if told 80 j k ≠ k then knB false n else if k = 0 then csetT x j (!n) else opA 16 (op2 o x (.num j)) (.num k) n) else opA 16 (op2 o x (.num j)) (.num k) n
  | t, k, n => opA 16 t (.num k) n
def cgtT (t : Tr) (k : Int) (n : Bool) : At := if k = 4294967295 then knB false n else if k = 0 then ceqT t 0 (!n) else opA 32 t (.num k) n
def numA (op : Int) (t : Tr) (k : Int) (n : Bool) : At :=
  if op = 16 then ceqT t k n else if op = 32 then cgtT t k n else if op = 48 then (if k = 0 then knB true n else cgtT t (k - 1) n) else csetT t k n
def mkA (op : Int) (s t : Tr) (n : Bool) : At := match nmT s, nmT t with
  | some i, some j => knB (WM.ask op i j) n
  | some i, none => if op = 32 then numA 48 t i (!n) else if op = 48 then numA 32 t i (!n) else numA op t i n
  | none, some j => numA op s j n
  | none, none => if eqT s t = true then (if op = 64 then ceqT s 0 (!n) else knB (op != 32) n) else opA op s t n
def isQ (op : Int) : Bool := op == 16 || op == 32 || op == 48 || op == 64
theorem isQ_iff {op : Int} : isQ op = true ↔ op = 16 ∨ op = 32 ∨ op = 48 ∨ op = 64 := by
  unfold isQ; simp only [Bool.or_eq_true, beq_iff_eq, or_assoc]
/-- is what is told so, of a record? -/
def hldA (r : List Int) (a : At) : Bool := if a.1 = 1 then (WM.ask a.2.1 (valT r a.2.2.1) (valT r a.2.2.2.1) != a.2.2.2.2) else a.1 == 2
theorem hld_kn (r : List Int) (b n : Bool) : hldA r (knB b n) = (b != n) := by
  unfold hldA knB
  cases b <;> cases n <;> simp
theorem hld_op (r : List Int) (op : Int) (s t : Tr) (n : Bool) : hldA r (opA op s t n) = (WM.ask op (valT r s) (valT r t) != n) := by
  unfold hldA opA; simp
theorem ask16 (a b : Int) : WM.ask 16 a b = (a == b) := rfl
theorem ask32 (a b : Int) : WM.ask 32 a b = decide (b < a) := rfl
theorem ask48 (a b : Int) : WM.ask 48 a b = decide (b ≤ a) := rfl
theorem ask64 (a b : Int) : WM.ask 64 a b = (told 80 a b != 0) := by
  rw [told_trn (by decide)]; rfl
theorem told80_0 {a : Int} (ha : W32 a) : told 80 a 0 = 0 := told_zero (by decide) ha
theorem told80_all {a : Int} (ha : W32 a) : told 80 a 4294967295 = a := told_idle (by decide) ha
theorem told80_self {a : Int} (ha : W32 a) : told 80 a a = a := told_selfA (.inr rfl) ha
theorem told80_assoc {a b c : Int} (ha : W32 a) (hb : W32 b) (hc : W32 c) : told 80 (told 80 a b) c = told 80 a (told 80 b c) := told_assoc (by decide) ha hb hc
theorem told80_comm {a b : Int} (ha : W32 a) (hb : W32 b) : told 80 a b = told 80 b a := told_comm (by decide) ha hb
theorem bne_not (a b : Bool) : (a != !b) = !(a != b) := by cases a <;> cases b <;> rfl
theorem bne_flip (a b : Bool) : ((!a) != (!b)) = (a != b) := by cases a <;> cases b <;> rfl

theorem cset_val {r : List Int} (hr : okW r) : ∀ (t : Tr) (k : Int) (n : Bool), okT t → W32 k → hldA r (csetT t k n) = (WM.ask 64 (valT r t) k != n) := by
  intro t k n
  induction t, k, n using csetT.induct with
  | case1 i k n => intro ht hk; rw [csetT, hld_kn, valT]
  | case2 o x j n =>
    intro ht hk
    rw [csetT, if_pos rfl, hld_kn, ask64, told80_0 (valT_w32 hr _ ht)]; rfl
  | case3 x j n h1 ih =>
    intro ht hk
    have ht' := ht
    rw [okT] at ht'
    obtain ⟨_, _, hx, hj⟩ := ht'
    rw [okT] at hj
    rw [csetT, if_neg h1, if_pos rfl, if_pos rfl, ih hx hj, ask64, ask64, told80_all (valT_w32 hr _ ht), valT, valT]
  | case4 o x j n h1 h2 =>
    intro ht hk
    rw [csetT, if_neg h1, if_pos rfl, if_neg h2, hld_op, ask16, ask64, told80_all (valT_w32 hr _ ht), bne_not]
    rw [show valT r (.num 0) = 0 by rw [valT]]
    generalize valT r (op2 o x (.num j)) = z
    cases n <;> cases hz : (z == 0) <;> simp [bne, hz]
  | case5 x j k n h1 h2 ih =>
    intro ht hk
    have ht' := ht
    rw [okT] at ht'
    obtain ⟨_, _, hx, hj⟩ := ht'
    rw [okT] at hj
    rw [csetT, if_neg h1, if_neg h2, if_pos rfl, ih hx (told_w32 _ _ _), ask64, ask64, valT, valT, told80_assoc (valT_w32 hr _ hx) hj hk]
  | case6 o x j k n h1 h2 h3 =>
    intro ht hk
    rw [csetT, if_neg h1, if_neg h2, if_neg h3, hld_op, valT]
  | case7 t n h1 h2 =>
    intro ht hk
    rw [csetT, if_pos rfl, hld_kn, ask64, told80_0 (valT_w32 hr _ ht)]
    · rfl
    · exact h1
    · exact h2
  | case8 t n h1 h2 h3 =>
    intro ht hk
    rw [csetT, if_neg h3, if_pos rfl, hld_op, ask16, ask64, told80_all (valT_w32 hr _ ht), bne_not]
    · rw [show valT r (.num 0) = 0 by rw [valT]]
      generalize valT r t = z
      cases n <;> cases hz : (z == 0) <;> simp [bne, hz]
    · exact h1
    · exact h2
  | case9 t k n h1 h2 h3 h4 =>
    intro ht hk
    rw [csetT, if_neg h3, if_neg h4, hld_op, valT]
    · exact h1
    · exact h2

theorem ceq_val {r : List Int} (hr : okW r) (t : Tr) (k : Int) (n : Bool) (ht : okT t) (hk : W32 k) : hldA r (ceqT t k n) = ((valT r t == k) != n) := by
  cases t, k, n using ceqT.fun_cases with
  | case1 i k n => rw [ceqT, hld_kn, valT]
  | case2 x j k n h1 =>
    have ht' := ht
    rw [okT] at ht'
    obtain ⟨_, _, hx, hj⟩ := ht'
    rw [okT] at hj
    rw [ceqT, if_pos rfl, if_pos h1, hld_kn]
    have : (valT r (op2 80 x (.num j)) == k) = false := by
      rw [beq_eq_false_iff_ne]
      intro e
      rw [valT, valT] at e
      refine h1 ?_
      have hv := valT_w32 hr _ hx
      rw [told80_comm hj hk, ← e, told80_assoc hv hj hj, told80_self hj]
    rw [this]
  | case3 x j n h1 =>
    have ht' := ht
    rw [okT] at ht'
    obtain ⟨_, _, hx, hj⟩ := ht'
    rw [okT] at hj
    rw [ceqT, if_pos rfl, if_neg (by simpa using h1), if_pos rfl, cset_val hr _ _ _ hx hj, ask64, valT, valT, bne_not]
    generalize told 80 (valT r x) j = z
    cases n <;> cases hz : (z == 0) <;> simp [bne, hz]
  | case4 x j k n h1 h2 => rw [ceqT, if_pos rfl, if_neg h1, if_neg h2, hld_op, ask16]; rw [show valT r (.num k) = k by rw [valT]]
  | case5 o x j k n h1 => rw [ceqT, if_neg h1, hld_op, ask16]; rw [show valT r (.num k) = k by rw [valT]]
  | case6 t k n h1 h2 =>
    rw [ceqT, hld_op, ask16]
    · rw [show valT r (.num k) = k by rw [valT]]
    · exact h1
    · exact h2
theorem cgt_val {r : List Int} (hr : okW r) (t : Tr) (k : Int) (n : Bool) (ht : okT t) (hk : W32 k) : hldA r (cgtT t k n) = (decide (k < valT r t) != n) := by
  have hv := valT_w32 hr _ ht
  unfold cgtT
  by_cases h1 : k = 4294967295
  · rw [if_pos h1, hld_kn, decide_eq_false (by have := hv.2; omega)]
  · rw [if_neg h1]
    by_cases h2 : k = 0
    · rw [if_pos h2, ceq_val hr t 0 _ ht ⟨by omega, by omega⟩, bne_not, h2]
      have := hv.1
      generalize valT r t = z at *
      by_cases hz : z = 0
      · subst hz; cases n <;> rfl
      · rw [decide_eq_true (by omega), beq_eq_false_iff_ne.2 hz]; cases n <;> rfl
    · rw [if_neg h2, hld_op, ask32, show valT r (.num k) = k by rw [valT]]
theorem num_val {r : List Int} (hr : okW r) {op : Int} (ho : isQ op = true) (t : Tr) (k : Int) (n : Bool) (ht : okT t) (hk : W32 k) : hldA r (numA op t k n) = (WM.ask op (valT r t) k != n) := by
  have hv := valT_w32 hr _ ht
  unfold numA
  rcases isQ_iff.1 ho with rfl | rfl | rfl | rfl
  · rw [if_pos rfl, ceq_val hr t k n ht hk, ask16]
  · rw [if_neg (by omega), if_pos rfl, cgt_val hr t k n ht hk, ask32]
  · rw [if_neg (by omega), if_neg (by omega), if_pos rfl, ask48]
    by_cases h : k = 0
    · rw [if_pos h, hld_kn, decide_eq_true (by have := hv.1; omega)]
    · rw [if_neg h, cgt_val hr t (k - 1) n ht ⟨by have := hk.1; omega, by have := hk.2; omega⟩]
      congr 1
      exact decide_eq_decide.2 (by omega)
  · rw [if_neg (by omega), if_neg (by omega), if_neg (by omega), cset_val hr t k n ht hk]
theorem ask_comm {op : Int} (h : op = 16 ∨ op = 64) {a b : Int} (ha : W32 a) (hb : W32 b) : WM.ask op a b = WM.ask op b a := by
  rcases h with rfl | rfl
  · rw [ask16, ask16, Bool.eq_iff_iff, beq_iff_eq, beq_iff_eq]; exact ⟨Eq.symm, Eq.symm⟩
  · rw [ask64, ask64, told80_comm ha hb]
/-- what is told is so just where it is that was asked -/
theorem mkA_val {r : List Int} (hr : okW r) {op : Int} (ho : isQ op = true) {s t : Tr} (hs : okT s) (ht : okT t) (n : Bool) : hldA r (mkA op s t n) = (WM.ask op (valT r s) (valT r t) != n) := by
  have vs := valT_w32 hr _ hs
  have vt := valT_w32 hr _ ht
  unfold mkA
  cases hi : nmT s with
  | some i =>
    have es := nmT_some hi
    subst es
    rw [okT] at hs
    rw [show valT r (.num i) = i by rw [valT]] at vs ⊢
    cases hj : nmT t with
    | some j =>
      have et := nmT_some hj
      subst et
      rw [hld_kn, show valT r (.num j) = j by rw [valT]]
    | none =>
      simp only
      rcases isQ_iff.1 ho with rfl | rfl | rfl | rfl
      · rw [if_neg (by omega), if_neg (by omega), num_val hr ho t i n ht hs, ask_comm (.inl rfl) vt hs]
      · rw [if_pos rfl, num_val hr (by decide) t i _ ht hs, ask48, ask32, bne_not, ← Bool.not_bne, ← decide_not]
        congr 1
        exact decide_eq_decide.2 (by omega)
      · rw [if_neg (by omega), if_pos rfl, num_val hr (by decide) t i _ ht hs, ask48, ask32, bne_not, ← Bool.not_bne, ← decide_not]
        congr 1
        exact decide_eq_decide.2 (by omega)
      · rw [if_neg (by omega), if_neg (by omega), num_val hr ho t i n ht hs, ask_comm (.inr rfl) vt hs]
  | none =>
    cases hj : nmT t with
    | some j =>
      have et := nmT_some hj
      subst et
      rw [okT] at ht
      rw [show valT r (.num j) = j by rw [valT]]
      exact num_val hr ho s j n hs ht
    | none =>
      simp only
      by_cases e : eqT s t = true
      · have e2 := eqT_iff.1 e
        subst e2
        rw [if_pos e]
        rcases isQ_iff.1 ho with rfl | rfl | rfl | rfl
        · rw [if_neg (by omega), hld_kn, ask16]; simp
        · rw [if_neg (by omega), hld_kn, ask32]; simp
        · rw [if_neg (by omega), hld_kn, ask48]; simp
        · rw [if_pos rfl, ceq_val hr s 0 _ hs ⟨by omega, by omega⟩, ask64, told80_self vs, bne_not]
          generalize valT r s = z
          cases n <;> cases hz : (z == 0) <;> simp [bne, hz]
      · rw [if_neg e, hld_op]
end Go.Proofs.Ytkeigicobcjleab.TM
namespace Go.Proofs.Ytkeigicobcjleab.TM
set_option linter.unusedVariables false
set_option maxRecDepth 100000
/-- turned: always for never, never for always; else not for not -/
def trnA (a : At) : At := if a.1 = 1 then (1, a.2.1, a.2.2.1, a.2.2.2.1, !a.2.2.2.2) else (if a.1 = 2 then 3 else 2, 0, .num 0, .num 0, false)
theorem trn_kn (b n : Bool) : trnA (knB b n) = knB b (!n) := by unfold trnA knB; cases b <;> cases n <;> simp
theorem trn_op_ (op : Int) (s t : Tr) (n : Bool) : trnA (opA op s t n) = opA op s t (!n) := by unfold trnA opA; simp
theorem cset_not (t : Tr) (k : Int) (n : Bool) : csetT t k (!n) = trnA (csetT t k n) := by
  induction t, k, n using csetT.induct with
  | case1 i k n => rw [csetT, csetT, trn_kn]
  | case2 o x j n => rw [csetT, csetT, if_pos rfl, if_pos rfl, trn_kn]
  | case3 x j n h1 ih => rw [csetT, csetT, if_neg h1, if_pos rfl, if_pos rfl, if_neg h1, if_pos rfl, if_pos rfl, ih]
  | case4 o x j n h1 h2 => rw [csetT, csetT, if_neg h1, if_pos rfl, if_neg h2, if_neg h1, if_pos rfl, if_neg h2, trn_op_]
  | case5 x j k n h1 h2 ih => rw [csetT, csetT, if_neg h1, if_neg h2, if_pos rfl, if_neg h1, if_neg h2, if_pos rfl, ih]
  | case6 o x j k n h1 h2 h3 => rw [csetT, csetT, if_neg h1, if_neg h2, if_neg h3, if_neg h1, if_neg h2, if_neg h3, trn_op_]
  | case7 t n h1 h2 => rw [csetT, csetT, if_pos rfl, if_pos rfl, trn_kn] <;> first | exact h1 | exact h2
  | case8 t n h1 h2 h3 => rw [csetT, csetT, if_neg h3, if_pos rfl, if_neg h3, if_pos rfl, trn_op_] <;> first | exact h1 | exact h2
  | case9 t k n h1 h2 h3 h4 => rw [csetT, csetT, if_neg h3, if_neg h4, if_neg h3, if_neg h4, trn_op_] <;> first | exact h1 | exact h2
theorem ceq_not (t : Tr) (k : Int) (n : Bool) : ceqT t k (!n) = trnA (ceqT t k n) := by
  cases t, k, n using ceqT.fun_cases with
  | case1 i k n => rw [ceqT, ceqT, trn_kn]
  | case2 x j k n h1 => rw [ceqT, ceqT, if_pos rfl, if_pos h1, if_pos rfl, if_pos h1, trn_kn]
  | case3 x j n h1 => rw [ceqT, ceqT, if_pos rfl, if_neg h1, if_pos rfl, if_pos rfl, if_neg h1, if_pos rfl, cset_not]
  | case4 x j k n h1 h2 => rw [ceqT, ceqT, if_pos rfl, if_neg h1, if_neg h2, if_pos rfl, if_neg h1, if_neg h2, trn_op_]
  | case5 o x j k n h1 => rw [ceqT, ceqT, if_neg h1, if_neg h1, trn_op_]
  | case6 t k n h1 h2 => rw [ceqT, ceqT, trn_op_] <;> first | exact h1 | exact h2
theorem cgt_not (t : Tr) (k : Int) (n : Bool) : cgtT t k (!n) = trnA (cgtT t k n) := by
  unfold cgtT
  by_cases h1 : k = 4294967295
  · rw [if_pos h1, if_pos h1, trn_kn]
  · rw [if_neg h1, if_neg h1]
    by_cases h2 : k = 0
    · rw [if_pos h2, if_pos h2, ceq_not t 0 (!n)]
    · rw [if_neg h2, if_neg h2, trn_op_]
theorem num_not (op : Int) (t : Tr) (k : Int) (n : Bool) : numA op t k (!n) = trnA (numA op t k n) := by
  unfold numA
  by_cases h1 : op = 16
  · rw [if_pos h1, if_pos h1, ceq_not]
  · rw [if_neg h1, if_neg h1]
    by_cases h2 : op = 32
    · rw [if_pos h2, if_pos h2, cgt_not]
    · rw [if_neg h2, if_neg h2]
      by_cases h3 : op = 48
      · rw [if_pos h3, if_pos h3]
        by_cases h4 : k = 0
        · rw [if_pos h4, if_pos h4, trn_kn]
        · rw [if_neg h4, if_neg h4, cgt_not]
      · rw [if_neg h3, if_neg h3, cset_not]
/-- asked the other way round: the same, turned -/
theorem mkA_not (op : Int) (s t : Tr) (n : Bool) : mkA op s t (!n) = trnA (mkA op s t n) := by
  unfold mkA
  cases hi : nmT s with
  | some i =>
    cases hj : nmT t with
    | some j => rw [trn_kn]
    | none =>
      simp only
      by_cases h2 : op = 32
      · rw [if_pos h2, if_pos h2, num_not 48 t i (!n)]
      · rw [if_neg h2, if_neg h2]
        by_cases h3 : op = 48
        · rw [if_pos h3, if_pos h3, num_not 32 t i (!n)]
        · rw [if_neg h3, if_neg h3, num_not]
  | none =>
    cases hj : nmT t with
    | some j => exact num_not op s j n
    | none =>
      simp only
      by_cases e : eqT s t = true
      · rw [if_pos e, if_pos e]
        by_cases h4 : op = 64
        · rw [if_pos h4, if_pos h4, ceq_not s 0 (!n)]
        · rw [if_neg h4, if_neg h4, trn_kn]
      · rw [if_neg e, if_neg e, trn_op_]

/-- an open one that is told of its own trees again, whatever its turn -/
def FixA (a : At) : Prop := ∃ op s t n, a = opA op s t n ∧ isQ op = true ∧ nmT s = none ∧ okT s ∧ okT t ∧ ∀ m, mkA op s t m = opA op s t m
def OkA (a : At) : Prop := (∃ b n, a = knB b n) ∨ FixA a
theorem nm_no {t : Tr} (h : ∀ i, t = .num i → False) : nmT t = none := by
  cases e : nmT t with
  | none => rfl
  | some i => exact absurd (nmT_some e) (fun e => h i e)
theorem mk_num {op : Int} {s : Tr} {k : Int} (hs : nmT s = none) (m : Bool) : mkA op s (.num k) m = numA op s k m := by
  unfold mkA; rw [hs]; rfl
theorem w0 : W32 0 := ⟨by omega, by omega⟩
theorem okn {k : Int} (h : W32 k) : okT (.num k) := by rw [okT]; exact h
theorem nm_op2 (o : Int) (x y : Tr) : nmT (op2 o x y) = none := rfl
theorem fix_num {op : Int} {s : Tr} {k : Int} {n : Bool} (ho : isQ op = true) (hs : nmT s = none) (h1 : okT s) (h2 : W32 k) (h : ∀ m, numA op s k m = opA op s (.num k) m) : FixA (opA op s (.num k) n) :=
  ⟨op, s, .num k, n, rfl, ho, hs, h1, okn h2, fun m => by rw [mk_num hs]; exact h m⟩
theorem cset_fix : ∀ (t : Tr) (k : Int) (n : Bool), okT t → W32 k → OkA (csetT t k n) := by
  intro t k n
  induction t, k, n using csetT.induct with
  | case1 i k n => intro ht hk; rw [csetT]; exact .inl ⟨_, _, rfl⟩
  | case2 o x j n => intro ht hk; rw [csetT, if_pos rfl]; exact .inl ⟨_, _, rfl⟩
  | case3 x j n h1 ih =>
    intro ht hk
    have ht' := ht
    rw [okT] at ht'
    obtain ⟨_, _, hx, hj⟩ := ht'
    rw [okT] at hj
    rw [csetT, if_neg h1, if_pos rfl, if_pos rfl]; exact ih hx hj
  | case4 o x j n h1 h2 =>
    intro ht hk
    rw [csetT, if_neg h1, if_pos rfl, if_neg h2]
    exact .inr (fix_num (by decide) (nm_op2 _ _ _) ht w0 (fun m => by unfold numA; rw [if_pos rfl, ceqT, if_neg (show ¬ o = 80 by assumption)]))
  | case5 x j k n h1 h2 ih =>
    intro ht hk
    have ht' := ht
    rw [okT] at ht'
    obtain ⟨_, _, hx, hj⟩ := ht'
    rw [csetT, if_neg h1, if_neg h2, if_pos rfl]; exact ih hx (told_w32 _ _ _)
  | case6 o x j k n h1 h2 h3 =>
    intro ht hk
    rw [csetT, if_neg h1, if_neg h2, if_neg h3]
    exact .inr (fix_num (by decide) (nm_op2 _ _ _) ht hk (fun m => by unfold numA; rw [if_neg (by omega), if_neg (by omega), if_neg (by omega), csetT, if_neg h1, if_neg h2, if_neg h3]))
  | case7 t n h1 h2 =>
    intro ht hk
    have e : csetT t 0 n = knB false n := by rw [csetT, if_pos rfl] <;> first | exact h1 | exact h2
    rw [e]; exact .inl ⟨_, _, rfl⟩
  | case8 t n h1 h2 h3 =>
    intro ht hk
    have e : csetT t 4294967295 n = opA 16 t (.num 0) (!n) := by rw [csetT, if_neg h3, if_pos rfl] <;> first | exact h1 | exact h2
    rw [e]
    exact .inr (fix_num (by decide) (nm_no h1) ht w0 (fun m => by unfold numA; rw [if_pos rfl, ceqT] <;> first | exact h1 | exact h2))
  | case9 t k n h1 h2 h3 h4 =>
    intro ht hk
    have e : ∀ m, csetT t k m = opA 64 t (.num k) m := fun m => by rw [csetT, if_neg h3, if_neg h4] <;> first | exact h1 | exact h2
    rw [e]
    exact .inr (fix_num (by decide) (nm_no h1) ht hk (fun m => by unfold numA; rw [if_neg (by omega), if_neg (by omega), if_neg (by omega), e]))
theorem ceq_fix (t : Tr) (k : Int) (n : Bool) (ht : okT t) (hk : W32 k) : OkA (ceqT t k n) := by
  cases t, k, n using ceqT.fun_cases with
  | case1 i k n => rw [ceqT]; exact .inl ⟨_, _, rfl⟩
  | case2 x j k n h1 => rw [ceqT, if_pos rfl, if_pos h1]; exact .inl ⟨_, _, rfl⟩
  | case3 x j n h1 =>
    have ht' := ht
    rw [okT] at ht'
    obtain ⟨_, _, hx, hj⟩ := ht'
    rw [okT] at hj
    rw [ceqT, if_pos rfl, if_neg h1, if_pos rfl]
    exact cset_fix x j _ hx hj
  | case4 x j k n h1 h2 =>
    rw [ceqT, if_pos rfl, if_neg h1, if_neg h2]
    exact .inr (fix_num (by decide) (nm_op2 _ _ _) ht hk (fun m => by unfold numA; rw [if_pos rfl, ceqT, if_pos rfl, if_neg h1, if_neg h2]))
  | case5 o x j k n h1 =>
    rw [ceqT, if_neg h1]
    exact .inr (fix_num (by decide) (nm_op2 _ _ _) ht hk (fun m => by unfold numA; rw [if_pos rfl, ceqT, if_neg h1]))
  | case6 t k n h1 h2 =>
    have e : ∀ m, ceqT t k m = opA 16 t (.num k) m := fun m => by rw [ceqT] <;> first | exact h1 | exact h2
    rw [e]
    exact .inr (fix_num (by decide) (nm_no h1) ht hk (fun m => by unfold numA; rw [if_pos rfl, e]))
theorem cgt_fix (t : Tr) (k : Int) (n : Bool) (hn : nmT t = none) (ht : okT t) (hk : W32 k) : OkA (cgtT t k n) := by
  unfold cgtT
  by_cases h1 : k = 4294967295
  · rw [if_pos h1]; exact .inl ⟨_, _, rfl⟩
  · rw [if_neg h1]
    by_cases h2 : k = 0
    · rw [if_pos h2]; exact ceq_fix t 0 _ ht w0
    · rw [if_neg h2]
      exact .inr (fix_num (by decide) hn ht hk (fun m => by unfold numA cgtT; rw [if_neg (by omega), if_pos rfl, if_neg h1, if_neg h2]))
theorem num_fix (op : Int) (t : Tr) (k : Int) (n : Bool) (hn : nmT t = none) (ht : okT t) (hk : W32 k) : OkA (numA op t k n) := by
  unfold numA
  by_cases h1 : op = 16
  · rw [if_pos h1]; exact ceq_fix t k n ht hk
  · rw [if_neg h1]
    by_cases h2 : op = 32
    · rw [if_pos h2]; exact cgt_fix t k n hn ht hk
    · rw [if_neg h2]
      by_cases h3 : op = 48
      · rw [if_pos h3]
        by_cases h4 : k = 0
        · rw [if_pos h4]; exact .inl ⟨_, _, rfl⟩
        · rw [if_neg h4]; exact cgt_fix t _ n hn ht ⟨by have := hk.1; omega, by have := hk.2; omega⟩
      · rw [if_neg h3]; exact cset_fix t k n ht hk
/-- what is told is known, or open and told of its own trees again -/
theorem mkA_fix {op : Int} (ho : isQ op = true) {s t : Tr} (hs : okT s) (ht : okT t) (n : Bool) : OkA (mkA op s t n) := by
  cases hi : nmT s with
  | some i =>
    have es := nmT_some hi
    subst es
    have hs' := hs
    rw [okT] at hs'
    cases hj : nmT t with
    | some j => unfold mkA; rw [hi, hj]; exact .inl ⟨_, _, rfl⟩
    | none =>
      unfold mkA
      rw [hi, hj]
      simp only
      by_cases h2 : op = 32
      · rw [if_pos h2]; exact num_fix 48 t i _ hj ht hs'
      · rw [if_neg h2]
        by_cases h3 : op = 48
        · rw [if_pos h3]; exact num_fix 32 t i _ hj ht hs'
        · rw [if_neg h3]; exact num_fix op t i n hj ht hs'
  | none =>
    cases hj : nmT t with
    | some j =>
      have et := nmT_some hj
      subst et
      have ht' := ht
      rw [okT] at ht'
      rw [mk_num hi]
      exact num_fix op s j n hi hs ht'
    | none =>
      by_cases e : eqT s t = true
      · have : mkA op s t n = if op = 64 then ceqT s 0 (!n) else knB (op != 32) n := by unfold mkA; rw [hi, hj]; simp only; rw [if_pos e]
        rw [this]
        by_cases h4 : op = 64
        · rw [if_pos h4]; exact ceq_fix s 0 _ hs w0
        · rw [if_neg h4]; exact .inl ⟨_, _, rfl⟩
      · have h : ∀ m, mkA op s t m = opA op s t m := fun m => by unfold mkA; rw [hi, hj]; simp only; rw [if_neg e]
        rw [h n]
        exact .inr ⟨op, s, t, n, rfl, ho, hi, hs, ht, h⟩
theorem mkA_self {op : Int} (h : op ≠ 64) (s : Tr) (n : Bool) : ∃ b, mkA op s s n = knB b n := by
  unfold mkA
  cases hi : nmT s with
  | some i => exact ⟨_, rfl⟩
  | none => simp only; rw [if_pos (eqT_iff.2 rfl), if_neg h]; exact ⟨_, rfl⟩
theorem mkA_nums {op : Int} {s t : Tr} {i j : Int} (hs : nmT s = some i) (ht : nmT t = some j) (n : Bool) : mkA op s t n = knB (WM.ask op i j) n := by unfold mkA; rw [hs, ht]
theorem kn_1 (b n : Bool) : (knB b n).1 ≠ 1 := by unfold knB; cases b <;> cases n <;> simp
/-- some bits of a word -/
theorem bits_no {w : Nat} {m v : Int} (hm : W32 m) (hv : W32 v) (h : told 80 m v ≠ v) (n : Bool) : mkA 16 (op2 80 (.var w) (.num m)) (.num v) n = knB false n := by
  rw [mk_num (nm_op2 _ _ _)]
  unfold numA
  rw [if_pos rfl, ceqT, if_pos rfl, if_pos h]
theorem bits_known {w : Nat} {m v : Int} (hm : W32 m) (hv : W32 v) (h : told 80 m v = v) (n : Bool) (hk : (mkA 16 (op2 80 (.var w) (.num m)) (.num v) n).1 ≠ 1) : m = 0 ∧ mkA 16 (op2 80 (.var w) (.num m)) (.num v) n = knB true n := by
  rw [mk_num (nm_op2 _ _ _)] at hk ⊢
  unfold numA at hk ⊢
  rw [if_pos rfl, ceqT, if_pos rfl, if_neg (by simpa using h)] at hk ⊢
  by_cases h0 : v = 0
  · rw [if_pos h0] at hk ⊢
    by_cases hm0 : m = 0
    · subst hm0
      refine ⟨rfl, ?_⟩
      rw [csetT, if_pos rfl]
      · unfold knB; cases n <;> rfl
      all_goals (intros; rename_i e; cases e)
    · exfalso
      by_cases hma : m = 4294967295
      · subst hma
        rw [csetT, if_neg (by omega), if_pos rfl] at hk
        · exact hk rfl
        all_goals (intros; rename_i e; cases e)
      · rw [csetT, if_neg hm0, if_neg hma] at hk
        · exact hk rfl
        all_goals (intros; rename_i e; cases e)
  · rw [if_neg h0] at hk
    exact absurd rfl hk
end Go.Proofs.Ytkeigicobcjleab.TM
