/-
  The program's All of layer 12, as walks over the Go text.
-/
import Derived.Test.YtapbeffjnpgglabSC3
import Derived.Test.YtapbeffjnpgglabTerCodB
namespace Go.Proofs.Ytapbeffjnpgglab.TB
open Go.ChangeShapes Go.WideShapes Go.ChangeAt Go.RowKit
open Go.Sort hiding Below
set_option linter.unusedVariables false
set_option maxRecDepth 100000

theorem AnSt.step {W2 wr w' : World} {g m pb : Nat} {T : Nat → TM.Tr} {k : Nat} {F F' : Nat → Prop} {L L' : List TM.N} {V : Nat → Nat} {p B : Nat} (h : AnSt W2 wr g m pb T k F L V) (hk : k < m) (hM : TM.Made L L' (T k) p) (hl : L'.length ≤ L.length + 3) (hP : Pw w' F' (.pointer (some ⟨pb, 0, none⟩)) L') (hF : Fr wr w' F) (hF2 : ∀ b, F' b → F b ∨ wr.heap.size ≤ b) :
    AnSt W2 (w'.setCell ⟨g, k, none⟩ (.int .i64 ((p : Nat) : Int))) g m pb T (k + 1) F' L' (fun j => if j = k then p else V j) := by
  obtain ⟨h1, h2, h3, h4, h5⟩ := h.call hM hl hP hF hF2 (K := 0)
  refine ⟨?_, hM.row, hM.once, hM.ok, by have := h.len; omega, fun j hj => ?_, (h1.set k hk _).congr (fun j hj => by split <;> rfl), h2, h3, h.gb, h4.setCell h.gb _⟩
  · exact pw_keep w' _ F' _ L' hP (by simp) (fun b hb => Below.heap_setCell _ _ _ _ (fun e => h2 (by have e' : b = g := e; rw [← e']; exact hb)))
  · by_cases e : j = k
    · subst e; simp only [if_true]; exact ⟨hM.lt, hM.tr⟩
    · simp only [if_neg e]; exact h5 j (by omega)
theorem liesI_one (w : World) (i : Int) : LiesI (w.alloc (.cells #[.int .i64 i] 3)) (some ⟨w.heap.size, 0, none⟩) [i] :=
  .inr ⟨_, _, rfl, by simp, fun j hj => by
    have e : j = 0 := by simpa using hj
    subst e
    simp⟩
theorem pw_zero (w : World) : Pw (w.alloc (.cells #[.slice none 0 0, .map none] 60)) (Fb w.heap.size none none) (.pointer (some ⟨w.heap.size, 0, none⟩)) [] :=
  ⟨w.heap.size, none, 0, none, rfl, rfl, World.alloc_heap_new w _, OwnN.nil _ _, .inl ⟨rfl, rfl⟩, by simp, fun x hx => (by cases hx), by simp [blk], by simp, fun m hm => (by cases hm)⟩

set_option maxHeartbeats 1600000 in
theorem ca_no (A : Option Addr) (n cap : Nat) (i q : Int) (hq : q ≠ 0) (w : World) (HO : ∀ W, Below w.heap.size w W → LiesI W (some ⟨w.heap.size, 0, none⟩) [i] → Calls Try.prog 21 #[.slice A n cap, .slice (some ⟨w.heap.size, 0, none⟩) 1 1] W fun e w' => ∃ a c b d, e = .returned (.tuple #[.slice a 0 c, .slice b 0 d, .int .i64 q]) ∧ Below W.heap.size W w') :
    Calls Try.prog 13 #[.slice A n cap, .int .i64 i] w fun e w' => ∃ a c, e = .returned (.tuple #[.slice a 0 c, .int .i64 0, .int .i64 q]) ∧ Below w.heap.size w w' := by
  have HX := hid (HO _ (al w _) (liesI_one w i))
  have HB0 := hid (al w (.cells #[.int .i64 i] 3))
  have d2 : (q != 0) = true := bne_iff_ne.2 hq
  clear HO hq
  go_enter Try.func13, Try.ntmps13
  go_wp2_with (go_at_call 21; refine HX.out.mono ?_; rintro e w1 ⟨a, c, b, d, rfl, hb⟩; have HB := stp HB0 hb; clear hb HX HB0)
  refine bodyPost_ret (results_tmp3 rfl _ _ _) rfl ?_
  exact ⟨none, 0, rfl, HB.out⟩
theorem ca_form : SaForm := by
  intro A n cap L i hln hn hrb ok hw w hl
  exact ca_no A n cap i 3 (by omega) w (fun W hb h2 => con_bad A n cap L _ 1 1 [i] hln rfl (by omega) ok hrb W (hl.below hb) h2)
theorem wf_range {i : Int} (h : (Lit.int .i64 i).wf = true) : -9223372036854775808 ≤ i ∧ i < 9223372036854775808 := by
  simp [Lit.wf, IntKind.min, IntKind.max, IntKind.signed, IntKind.bits] at h; omega
theorem ca_range : SaRange := by
  intro A n cap L i hln hn hL ok hw hi w hl
  refine ca_no A n cap i 2 (by omega) w (fun W hb h2 => con_out A n cap L _ 1 1 [i] hln rfl (by omega) ok hL (fun h => ?_) (fun j hj => ?_) W (hl.below hb) h2)
  · have := h i (by simp); omega
  · rw [List.mem_singleton] at hj; rw [hj]; exact wf_range hw

set_option maxHeartbeats 6400000 in
theorem ca_ok : SaOk := by
  intro A n cap L i hln hn hL ok hi w hl
  have hin : inB L [(i : Int)] := fun x hx => by rw [List.mem_singleton] at hx; omega
  have HO := hid (fun W (hb : Below w.heap.size w W) (h2 : LiesI W (some ⟨w.heap.size, 0, none⟩) [(i : Int)]) => con A n cap L (some ⟨w.heap.size, 0, none⟩) 1 1 [(i : Int)] hln rfl (by omega) ok hL hin W (hl.below hb) h2)
  have hroot : TM.inR L [(i : Int)] i = true := by rw [TM.inR_one]; exact TM.inT_self L i
  have hil : i < L.length := by omega
  have Hr := hid (And.intro (TM.only_row hL [(i : Int)]) (And.intro (TM.only_ok hL ok [(i : Int)]) (And.intro (TM.only_lt L [(i : Int)] hil hroot) (TM.only_tr hL [(i : Int)] i hil hroot))))
  have hmn : (TM.onlyL L [(i : Int)]).length ≤ n := by rw [← hln]; exact TM.only_le _ _
  have HX := hid (HO.out _ (al w _) (liesI_one w i))
  have HB0 := hid (al w (.cells #[.int .i64 (i : Int)] 3))
  obtain ⟨p0, hp0⟩ : ∃ p0, TM.cnP (TM.inR L [(i : Int)]) i = p0 := ⟨_, rfl⟩
  have hP0 : ∀ j, j < 1 → TM.cnP (TM.inR L [(i : Int)]) (([(i : Int)] : List Int).getD j 0).toNat = p0 := fun j hj => by
    obtain rfl : j = 0 := by omega
    exact hp0
  rw [hp0] at Hr
  obtain ⟨row, hrow⟩ : ∃ row, TM.onlyL L [(i : Int)] = row := ⟨_, rfl⟩
  rw [hrow] at Hr hmn HX
  obtain ⟨m, hm⟩ : ∃ m, row.length = m := ⟨_, rfl⟩
  rw [hm] at hmn Hr HX
  obtain ⟨j0, hj, hy0, hy1, hy2⟩ := info_parts infoi
  obtain ⟨TT, hTT⟩ : ∃ t, TM.tr L i = t := ⟨_, rfl⟩
  rw [hTT] at Hr ⊢
  clear hln hL ok hl hin HO hroot hil hp0 hrow hTT hi
  go_enter Try.func13, Try.ntmps13
  go_wp2_with fail
  refine HX.out.mono ?_
  rintro e w2 ⟨a, c, pp, d, rfl, h1, h2, hb⟩
  have hb2 := HB0.out.trans (hb.mono HB0.out.size)
  have h2' : RowO w2 pp 1 (fun j => .int .i64 ((p0 : Nat) : Int)) := by
    rcases h2 with h | ⟨g, o, e1, e2, e3⟩
    · omega
    · exact .inr ⟨g, o, e1, e2, fun j hj => by rw [e3 j hj]; exact congrArg (fun z : Nat => some (Value.int .i64 (z : Int))) (hP0 j hj)⟩
  have HA := hid (And.intro h1 (And.intro h2' hb2))
  have hz := pw_zero w2
  have hal := al w2 (.cells #[.slice none 0 0, .map none] 60)
  have hs3 : (w2.alloc (.cells #[.slice none 0 0, .map none] 60)).heap.size = w2.heap.size + 1 := by simp
  obtain ⟨w3, hw3⟩ : ∃ w3, w2.alloc (.cells #[.slice none 0 0, .map none] 60) = w3 := ⟨_, rfl⟩
  rw [hw3] at hz hal hs3
  clear h1 h2 h2' hb hb2 HX HB0 hP0
  go_wp2_with (at_make; refine wpList_make_full _ rfl _ _ 26 rfl w3.heap.size 3 j0 (.int .i64 0) 1 Try.underlying26 hj hy0 hy1 .i64 .i64 m m m rfl rfl rfl rfl ?c1 ?c2 (Nat.le_refl _) ?_)
  case c1 => rw [hy2]; omega
  case c2 => unfold maxLen; omega
  intro wm hown hgrow
  have hbm : Below w3.heap.size w3 wm := (Below.refl _ _).grown hgrow (Nat.le_refl _) (by intro k hk; cases hk)
  have hNm : Row wm (w2.heap.size + 1) m (fun _ => .int .i64 0) := Row.of_own hown (fun j hj => made_get (.int .i64 0) m j hj) (hown.lt _ rfl).2
  have hF0 : ∀ b, Fb w2.heap.size none none b → b = w2.heap.size := by
    rintro b (e | e | e)
    · exact e
    · cases e
    · cases e
  have HS := hid (show AnSt w2 wm (w2.heap.size + 1) m w2.heap.size (fun j => TM.anewT (TM.tr row j)) 0 (Fb w2.heap.size none none) [] (fun _ => 0) from
    ⟨pw_below hz hbm, TM.row_nil, TM.once_nil, fun x hx => (by cases hx), by simp, fun j hj => absurd hj (Nat.not_lt_zero _), hNm, fun e => by have := hF0 _ e; omega, fun b hb => by have := hF0 _ hb; omega, by omega, hal.trans (hbm.mono hal.size)⟩)
  clear hown hgrow hbm hNm hz hal hw3
  go_wp2
  go_loopw [32] (fun iv wr => ∃ (k : Nat) (F : Nat → Prop) (L' : List TM.N) (V : Nat → Nat), k ≤ m ∧ iv = .int .i64 k ∧ Hid (AnSt w2 wr (w2.heap.size + 1) m w2.heap.size (fun j => TM.anewT (TM.tr row j)) k F L' V)) (fun iv _ => m - (intOf iv).toNat)
  case atStart => exact ⟨0, _, _, _, Nat.zero_le _, rfl, HS⟩
  case round =>
    clear HS
    obtain ⟨k, F, L', V, hk, rfl, HR⟩ := hrel
    by_cases hlt : k < m
    · have i2 : (k : Int) < (m : Int) := by omega
      have hkl : k < row.length := by omega
      have hmay := Hr.out.1.2 k hkl
      have htr := TM.tr_row Hr.out.1 hkl
      have hokx := Hr.out.2.1 _ (List.getElem_mem hkl)
      rw [TM.nat0_eq hkl] at hmay htr
      obtain ⟨gb, go, rfl, hly⟩ := (HA.out.1.below HR.out.bl).ly (by omega)
      obtain ⟨q0, q1, q2, q3⟩ := hly.2 k hkl
      obtain ⟨x, hx⟩ : ∃ x, row[k] = x := ⟨_, rfl⟩
      rw [hx] at q0 q1 q2 q3 hmay htr hokx
      clear hx hly
      have hV : ∀ j ∈ TM.parts x, V j < L'.length := fun j hj => (HR.out.at_ j (TM.parts_lt hmay hj)).1
      have hll := HR.out.len
      have hmy := TM.moved_may (v := V) hmay hV
      have hoy := TM.moved_ok (v := V) hokx (m := L'.length) (by omega) hV
      have hT := TM.anewN_moved hmay (V := V) (f := TM.tr L') (T := TM.tr row) (fun j hj => (HR.out.at_ j (TM.parts_lt hmay hj)).2)
      rw [← htr] at hT
      have HB1 := hid (al wr (.cells #[.int .i64 x.1, .int .i64 x.2.1, .int .i64 x.2.2.1, .int .u32 x.2.2.2] 40))
      have HN1 := hid (NAt.new wr x.1 x.2.1 x.2.2.1 x.2.2.2)
      have HCl := hid (cmoved x k hmay (w2.heap.size + 1) m m (by omega) (by omega) V _ (HR.out.rw.below HB1.out))
      obtain ⟨y, hy⟩ : ∃ y, TM.moved x V = y := ⟨_, rfl⟩
      rw [hy] at hmy hoy hT HCl
      obtain ⟨yo, ya, yb, yk⟩ := y
      simp only at HCl
      have HAn := hid (show ∀ w5, Below wr.heap.size wr w5 → Calls Try.prog 22 #[.pointer (some ⟨w2.heap.size, 0, none⟩), .agg #[.int .i64 yo, .int .i64 ya, .int .i64 yb, .int .u32 yk]] w5 fun e w' => WAt w5 F (.pointer (some ⟨w2.heap.size, 0, none⟩)) L' (TM.anewT (TM.tr row k)) 2 e w' from fun w5 hb => by
        rw [← hT]
        exact canew w5 F _ L' (pw_below HR.out.pl hb) HR.out.row HR.out.once HR.out.ok (by omega) yo ya yb yk hoy hmy)
      clear hmay htr hokx hV hmy hoy hT hy
      obtain ⟨x0, x1, x2, x3⟩ := x
      simp only at q0 q1 q2 q3 HB1 HN1 HCl
      obtain ⟨u0, u1, u2, u3, uf⟩ := HN1.out.cells
      go_wp2_with (first
        | (go_at_call 23; refine HCl.out.mono ?_; clear HCl; rintro e w4 ⟨rfl, hb⟩; have HB2 := stp HB1 hb; clear hb HB1 HN1 u0 u1 u2 u3 uf q0 q1 q2 q3)
        | (go_at_call 22; refine (HAn.out _ HB2.out).mono ?_; clear HAn; rintro e w5 ⟨F9, L9, p9, rfl, hM, hl9, hP9, hF9, hF8⟩; have HZ := hid ((HR.out.below HB2.out).step (B := 0) hlt hM (by omega) hP9 hF9 hF8); have hq5 := ((HR.out.below HB2.out).call hM hl9 hP9 hF9 hF8 (K := 0)).1; have c5 := hq5.cell k hlt; have f5 := hq5.froz k hlt; clear hM hl9 hP9 hF9 hF8 hq5 HB2))
      go_roundw
      case rel => exact ⟨k + 1, F9, L9, _, by omega, by go_num, HZ⟩
      case measure => simp [intOf]; omega
    · obtain rfl : k = m := by omega
      have hpk : p0 < k := Hr.out.2.2.1
      obtain ⟨hVl, hVt⟩ := HR.out.at_ p0 hpk
      obtain ⟨b, A', cap', mo, hv, _, hWb⟩ := HR.out.pl
      obtain rfl : b = w2.heap.size := by injection hv with h; injection h with h; injection h with h; exact h.symm
      have hll := HR.out.len
      have HOn := hid (wonly wr w2.heap.size A' cap' L'.length mo L' rfl hWb HR.out.row (V p0) hVl)
      have HAl := hid (TM.only_alone HR.out.row HR.out.ok HR.out.once hVl)
      rw [hVt, Hr.out.2.2.2] at HAl
      have hle := TM.only_le L' [((V p0 : Nat) : Int)]
      have cM := HR.out.rw.cell p0 hpk
      have hRO := HA.out.2.1.below HR.out.bl
      obtain ⟨g', o', rfl, hg', hc'⟩ : ∃ g o, pp = some ⟨g, o, none⟩ ∧ g < wr.heap.size ∧ ∀ j, j < 1 → wr.cell? ⟨g, o + j, none⟩ = some (.int .i64 ((p0 : Nat) : Int)) := by
        rcases hRO with h | h
        · omega
        · exact h
      have cQ := hc' 0 (by omega)
      rw [Nat.add_zero] at cQ
      have i3 : (p0 : Int) < (k : Int) := by omega
      have HBl := hid (HA.out.2.2.trans (HR.out.bl.mono HA.out.2.2.size))
      have Hle := hid (show (TM.onlyL L' [((V p0 : Nat) : Int)]).length ≤ 4 * n from by omega)
      obtain ⟨out, hout⟩ : ∃ out, TM.onlyL L' [((V p0 : Nat) : Int)] = out := ⟨_, rfl⟩
      obtain ⟨pz, hpz⟩ : ∃ pz, TM.cnP (TM.inR L' [((V p0 : Nat) : Int)]) (V p0) = pz := ⟨_, rfl⟩
      rw [hout, hpz] at HOn HAl
      rw [hout] at Hle
      clear hWb hv hRO hc' HR hle hout hpz hVt hll hVl
      go_wp2_with (go_at_call 24; refine HOn.out.mono ?_; rintro e w9 ⟨a9, c9, rfl, hl9, hb9⟩; have HZ := hid (And.intro hl9 (HBl.out.trans (hb9.mono HBl.out.size))); clear hl9 hb9 HOn HBl)
      refine bodyPost_ret (results_tmp3 rfl _ _ _) rfl ?_
      exact ⟨a9, _, c9, out, pz, rfl, rfl, Hle.out, HZ.out.1, HAl.out, HZ.out.2⟩
end Go.Proofs.Ytapbeffjnpgglab.TB
namespace Go.Proofs.Ytapbeffjnpgglab.TB
open Go.ChangeShapes Go.WideShapes Go.ChangeAt Go.RowKit
open Go.Sort hiding Below
set_option linter.unusedVariables false
set_option maxRecDepth 100000

theorem may_mono {x : TM.N} {i j : Nat} (h : TM.may x i = true) (hij : i ≤ j) : TM.may x j = true := by
  rcases TM.may_ok h with ⟨h1, h2, h3⟩ | ⟨h1, h2, h3, h4⟩ | ⟨h1, h2, h3, h4, h5⟩ | ⟨h1, h2, h3, h4, h5, h6, h7⟩
  · rw [TM.may_num h1, h2, h3]; rfl
  · rw [TM.may_word h1, h2, h3]; simpa using h4
  · rw [TM.may_neg h1, h2, h5]; simp; omega
  · rw [TM.may_two h1 h2, h3]; simp; omega

set_option maxHeartbeats 1600000 in
theorem cn_no (A : Option Addr) (n cap : Nat) (L : List TM.N) (hln : L.length = n) (hn : n ≤ 4000) (ok : ∀ x ∈ L, TM.okN x) (hrb : TM.rowB L = false) (w : World) (hl : LiesN w A L) :
    Calls Try.prog 14 #[.slice A n cap] w fun e w' => e = .returned (.bool false) ∧ Below w.heap.size w w' := by
  obtain ⟨p, q, hc⟩ : ∃ p q, TM.chk L = (p, q) := ⟨_, _, rfl⟩
  have HC := hid (ccheck A n cap L hln (by omega) ok w hl p q hc)
  have d2 : (q != 0) = true := by
    unfold TM.rowB at hrb
    rw [hc] at hrb
    exact bne_iff_ne.2 (beq_eq_false_iff_ne.1 hrb)
  clear hln hn ok hrb hl hc
  go_enter Try.func14, Try.ntmps14
  go_wp2_with (go_at_call 25; refine HC.out.mono ?_; rintro e w1 ⟨rfl, hb⟩; have HB := hid hb; clear hb HC)
  go_ret
  exact ⟨rfl, HB.out⟩

set_option maxHeartbeats 6400000 in
theorem cn_ok : SnOk := by
  intro A n cap L q hln hn ok hq w hl
  cases hrb : TM.rowB L with
  | false =>
    have e : q = false := by
      cases q with
      | false => rfl
      | true => have := (hq.1 rfl).1; rw [← TM.row_iff, hrb] at this; cases this
    subst e
    exact cn_no A n cap L hln hn ok hrb w hl
  | true =>
  have hL := TM.row_iff.1 hrb
  have hchk : TM.chk L = (0, 0) := by
    unfold TM.chk
    rw [if_neg (by omega), TM.bad_none.2 hL.2]
  have HC := hid (ccheck A n cap L hln (by omega) ok w hl 0 0 hchk)
  have Hr := hid (And.intro hln (And.intro hL (And.intro ok (And.intro hl hq))))
  obtain ⟨j0, hj, hy0, hy1, hy2⟩ := info_parts infoi
  clear hln ok hl hq hrb hL hchk
  go_enter Try.func14, Try.ntmps14
  go_wp2_with fail
  refine HC.out.mono ?_
  rintro e w2 ⟨rfl, hb2⟩
  have HA := hid hb2
  have hz := pw_zero w2
  have hal := al w2 (.cells #[.slice none 0 0, .map none] 60)
  have hs3 : (w2.alloc (.cells #[.slice none 0 0, .map none] 60)).heap.size = w2.heap.size + 1 := by simp
  obtain ⟨w3, hw3⟩ : ∃ w3, w2.alloc (.cells #[.slice none 0 0, .map none] 60) = w3 := ⟨_, rfl⟩
  rw [hw3] at hz hal hs3
  clear hb2 HC
  go_wp2_with (at_make; refine wpList_make_full _ rfl _ _ 26 rfl w3.heap.size 3 j0 (.int .i64 0) 1 Try.underlying26 hj hy0 hy1 .i64 .i64 n n n rfl rfl rfl rfl ?c1 ?c2 (Nat.le_refl _) ?_)
  case c1 => rw [hy2]; omega
  case c2 => unfold maxLen; omega
  intro wm hown hgrow
  have hbm : Below w3.heap.size w3 wm := (Below.refl _ _).grown hgrow (Nat.le_refl _) (by intro k hk; cases hk)
  have hNm : Row wm (w2.heap.size + 1) n (fun _ => .int .i64 0) := Row.of_own hown (fun j hj => made_get (.int .i64 0) n j hj) (hown.lt _ rfl).2
  have hF0 : ∀ b, Fb w2.heap.size none none b → b = w2.heap.size := by
    rintro b (e | e | e)
    · exact e
    · cases e
    · cases e
  have HS := hid (show AnSt w2 wm (w2.heap.size + 1) n w2.heap.size (TM.tr L) 0 (Fb w2.heap.size none none) [] (fun _ => 0) from
    ⟨pw_below hz hbm, TM.row_nil, TM.once_nil, fun x hx => (by cases hx), by simp, fun j hj => absurd hj (Nat.not_lt_zero _), hNm, fun e => by have := hF0 _ e; omega, fun b hb => by have := hF0 _ hb; omega, by omega, hal.trans (hbm.mono hal.size)⟩)
  clear hown hgrow hbm hNm hz hal hw3
  go_wp2
  go_loopw [23] (fun iv wr => ∃ (k : Nat) (F : Nat → Prop) (L' : List TM.N) (V : Nat → Nat), k ≤ n ∧ iv = .int .i64 k ∧ Hid (AnSt w2 wr (w2.heap.size + 1) n w2.heap.size (TM.tr L) k F L' V ∧ ∀ j, j < k → TM.anewT (TM.tr L j) = TM.tr L j)) (fun iv _ => n - (intOf iv).toNat)
  case atStart => exact ⟨0, _, _, _, Nat.zero_le _, rfl, HS.out, fun j hj => absurd hj (Nat.not_lt_zero _)⟩
  case round =>
    clear HS
    obtain ⟨k, F, L', V, hk, rfl, HR⟩ := hrel
    by_cases hlt : k < n
    · have i2 : (k : Int) < (n : Int) := by omega
      have hln := Hr.out.1
      have hkl : k < L.length := by omega
      have hmay := Hr.out.2.1.2 k hkl
      have htr := TM.tr_row Hr.out.2.1 hkl
      have hokx := Hr.out.2.2.1 _ (List.getElem_mem hkl)
      rw [TM.nat0_eq hkl] at hmay htr
      obtain ⟨gb, go, rfl, hly⟩ := ((Hr.out.2.2.2.1.below HA.out).below HR.out.1.bl).ly (by omega)
      obtain ⟨q0, q1, q2, q3⟩ := hly.2 k hkl
      obtain ⟨x, hx⟩ : ∃ x, L[k] = x := ⟨_, rfl⟩
      rw [hx] at q0 q1 q2 q3 hmay htr hokx
      clear hx hly
      have hV : ∀ j ∈ TM.parts x, V j < L'.length := fun j hj => (HR.out.1.at_ j (TM.parts_lt hmay hj)).1
      have hll := HR.out.1.len
      have hmy := TM.moved_may (v := V) hmay hV
      have hoy := TM.moved_ok (v := V) hokx (m := L'.length) (by omega) hV
      have hT0 := TM.trN_moved hmay (c := V) (v := TM.tr L') (u := TM.tr L) (fun j hj => (HR.out.1.at_ j (TM.parts_lt hmay hj)).2)
      have hT : ∀ L1, (∀ j, j < k → TM.tr L1 (V j) = TM.tr L j) → TM.anewN (TM.moved x V) (TM.tr L1) = TM.anewT (TM.tr L k) := fun L1 h => by
        rw [htr]
        exact TM.anewN_moved hmay (V := V) (f := TM.tr L1) (T := TM.tr L) (fun j hj => by rw [h j (TM.parts_lt hmay hj), HR.out.2 j (TM.parts_lt hmay hj)])
      rw [← htr] at hT0
      have HB1 := hid (al wr (.cells #[.int .i64 x.1, .int .i64 x.2.1, .int .i64 x.2.2.1, .int .u32 x.2.2.2] 40))
      have HN1 := hid (NAt.new wr x.1 x.2.1 x.2.2.1 x.2.2.2)
      have HCl := hid (cmoved x k hmay (w2.heap.size + 1) n n (by omega) (by omega) V _ (HR.out.1.rw.below HB1.out))
      obtain ⟨y, hy⟩ : ∃ y, TM.moved x V = y := ⟨_, rfl⟩
      rw [hy] at hmy hoy hT HCl hT0
      obtain ⟨yo, ya, yb, yk⟩ := y
      simp only at HCl
      have HPu := hid (show ∀ w5, Below wr.heap.size wr w5 → Calls Try.prog 26 #[.pointer (some ⟨w2.heap.size, 0, none⟩), .agg #[.int .i64 yo, .int .i64 ya, .int .i64 yb, .int .u32 yk]] w5 fun e w' => PoolAt Pw w5 F (.pointer (some ⟨w2.heap.size, 0, none⟩)) L' (TM.tr L k) 1 e w' from fun w5 hb => by
        rw [← hT0]
        exact qputW w5 F _ L' (pw_below HR.out.1.pl hb) HR.out.1.row HR.out.1.once HR.out.1.ok (by omega) yo ya yb yk hoy hmy)
      have HAn := hid (show ∀ (w6 : World) (F1 : Nat → Prop) (L1 : List TM.N) (t1 : TM.Tr) (p1 : Nat), TM.Made L' L1 t1 p1 → L1.length ≤ L'.length + 1 → Pw w6 F1 (.pointer (some ⟨w2.heap.size, 0, none⟩)) L1 → Calls Try.prog 22 #[.pointer (some ⟨w2.heap.size, 0, none⟩), .agg #[.int .i64 yo, .int .i64 ya, .int .i64 yb, .int .u32 yk]] w6 fun e w' => WAt w6 F1 (.pointer (some ⟨w2.heap.size, 0, none⟩)) L1 (TM.anewT (TM.tr L k)) 2 e w' from fun w6 F1 L1 t1 p1 hM hl hP => by
        rw [← hT L1 (fun j hj => by
          obtain ⟨g1, g2⟩ := HR.out.1.at_ j hj
          rw [(hM.keep g1).2]; exact g2)]
        exact canew w6 F1 _ L1 hP hM.row hM.once hM.ok (by omega) yo ya yb yk hoy (may_mono hmy hM.len))
      clear hmay htr hokx hV hmy hoy hT hy hT0
      obtain ⟨x0, x1, x2, x3⟩ := x
      simp only at q0 q1 q2 q3 HB1 HN1 HCl
      obtain ⟨u0, u1, u2, u3, uf⟩ := HN1.out.cells
      have hnF : ¬ F wr.heap.size := fun e => by have := pw_lt _ _ _ _ HR.out.1.pl _ e; omega
      go_wp2_with fail
      refine HCl.out.mono ?_
      rintro e w4 ⟨rfl, hb⟩
      have HB2 := stp HB1 hb
      have HN2 := hid (HN1.out.below hb)
      clear hb HB1 HN1 u0 u1 u2 u3 uf q0 q1 q2 q3 HCl
      obtain ⟨u0, u1, u2, u3, uf⟩ := HN2.out.cells
      have hput := HN2.out.put (yo, ya, yb, yk)
      have hpbl := nput_below (x := (yo, ya, yb, yk)) HB2.out (Nat.le_refl _)
      obtain ⟨w5, hw5⟩ : ∃ w5, nput w4 wr.heap.size (yo, ya, yb, yk) = w5 := ⟨_, rfl⟩
      rw [hw5] at hput hpbl
      unfold nput at hw5
      simp only at hw5
      have HN5 := hid hput
      have HB5 := hid hpbl
      clear hput hpbl HB2 HN2
      obtain ⟨v0, v1, v2, v3, vf⟩ := HN5.out.cells
      go_wp2_with fail
      refine (HPu.out _ HB5.out).mono ?_
      rintro e w6 ⟨F1, L1, p1, rfl, hM1, hl1, hP1, hF1, hF2⟩
      have HN6 := hid (HN5.out.fr hF1 hnF)
      have HA6 := hid (HAn.out w6 F1 L1 _ p1 hM1 hl1 hP1)
      have H1 := hid (And.intro hM1 (And.intro hl1 (And.intro hF1 hF2)))
      clear hM1 hl1 hP1 hF1 hF2 u0 u1 u2 u3 uf v0 v1 v2 v3 vf HN5 HPu HAn hw5
      obtain ⟨v0, v1, v2, v3, vf⟩ := HN6.out.cells
      go_wp2_with fail
      refine HA6.out.mono ?_
      rintro e w7 ⟨F3, L3, p3, rfl, hM3, hl3, hP3, hF3, hF4⟩
      have hMM := H1.out.1.trans hM3
      have hll3 : L3.length ≤ L'.length + 3 := by have := H1.out.2.1; omega
      have hFF := H1.out.2.2.1.comp hF3 H1.out.2.2.2
      have hF5 : ∀ b, F3 b → F b ∨ w5.heap.size ≤ b := fun b hb => by
        rcases hF4 b hb with h | h
        · exact H1.out.2.2.2 b h
        · exact .inr (Nat.le_trans H1.out.2.2.1.size h)
      have hst := HR.out.1.below HB5.out
      have hq7 := (hst.call hMM hll3 hP3 hFF hF5 (K := 0)).1
      have c7 := hq7.cell k hlt
      have f7 := hq7.froz k hlt
      have hp1 : TM.tr L3 p1 = TM.tr L k := by rw [(hM3.keep H1.out.1.lt).2]; exact H1.out.1.tr
      have hp1l : p1 < L3.length := Nat.lt_of_lt_of_le H1.out.1.lt hM3.len
      by_cases e : p3 = p1
      · have hT : TM.anewT (TM.tr L k) = TM.tr L k := by rw [← hM3.tr, e, hp1]
        have hZ := hst.step (B := 0) hlt (by rw [← hT]; exact hMM) hll3 hP3 hFF hF5
        have cK := hZ.rw.cell k hlt
        simp only [if_true] at cK
        have HZ := hid (And.intro hZ (show ∀ j, j < k + 1 → TM.anewT (TM.tr L j) = TM.tr L j from fun j hj => by
          by_cases ej : j = k
          · subst ej; exact hT
          · exact HR.out.2 j (by omega)))
        have d1 : ((p3 : Int) != (p1 : Int)) = false := by rw [e]; exact bne_self_eq_false _
        clear hMM hll3 hFF hF5 hst hq7 hp1 hp1l hT hZ hM3 hl3 hP3 hF3 hF4 H1 HA6 HN6 v0 v1 v2 v3 vf e HR
        go_wp2
        go_roundw
        case rel => exact ⟨k + 1, F3, L3, _, by omega, by go_num, HZ.out⟩
        case measure => simp [intOf]; omega
      · have hT : ¬ TM.anewT (TM.tr L k) = TM.tr L k := fun h => e (TM.tr_inj hM3.row hM3.ok hM3.once p3 p1 hM3.lt hp1l (by rw [hM3.tr, hp1, h]))
        have hq := Hr.out.2.2.2.2
        have hqf : q = false := by
          cases q with
          | false => rfl
          | true => exact absurd ((hq.1 rfl).2 k hkl) hT
        subst hqf
        have d1 : ((p3 : Int) != (p1 : Int)) = true := bne_iff_ne.2 (fun h => e (by omega))
        have cK := (hq7.set k hlt (.int .i64 ((p3 : Nat) : Int))).cell k hlt
        simp only [if_true] at cK
        have hb7 := (hst.call hMM hll3 hP3 hFF hF5 (K := 0)).2.2.2.1
        have HZ := hid (HA.out.trans ((hb7.setCell (p := ⟨w2.heap.size + 1, k, none⟩) (by show w2.heap.size ≤ w2.heap.size + 1; omega) (.int .i64 ((p3 : Nat) : Int))).mono HA.out.size))
        clear hMM hll3 hFF hF5 hst hq7 hp1 hp1l hT hM3 hl3 hP3 hF3 hF4 H1 HA6 HN6 v0 v1 v2 v3 vf e HR hq hb7
        go_wp2
        go_ret
        exact ⟨rfl, HZ.out⟩
    · obtain rfl : k = n := by omega
      have hqt : q = true := Hr.out.2.2.2.2.2 ⟨Hr.out.2.1, fun j hj => HR.out.2 j (by have := Hr.out.1; omega)⟩
      subst hqt
      have HZ := hid (HA.out.trans (HR.out.1.bl.mono HA.out.size))
      clear HR
      go_wp2
      go_ret
      exact ⟨rfl, HZ.out⟩
end Go.Proofs.Ytapbeffjnpgglab.TB
