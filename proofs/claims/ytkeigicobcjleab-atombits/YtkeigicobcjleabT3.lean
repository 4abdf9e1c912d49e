/-
  The reference's Values of layer 11, as a walk over the Go text.
-/
import Derived.Test.YtkeigicobcjleabT2
import Derived.Test.YtkeigicobcjleabHX
import Derived.Test.YtkeigicobcjleabH5
import Derived.Test.YtkeigicobcjleabT1
namespace Go.Proofs.Ytkeigicobcjleab.TM
theorem eval_bd {x : N} (hx : okN x) (v : Nat → Int) {r : List Int} (hr : R.okR r) : 0 ≤ evalN x v r ∧ evalN x v r < 4294967296 := by
  unfold evalN
  split
  · exact hx.2.2.2
  · split
    · exact hr.2 _
    · split
      · exact WM.val_range _ _ _
      · split
        · exact WM.val_range _ _ _
        · omega
theorem val_bd {l : List N} (ok : ∀ x ∈ l, okN x) {r : List Int} (hr : R.okR r) (i : Nat) : 0 ≤ val l r i ∧ val l r i < 4294967296 := by
  rw [val_at]; exact eval_bd (nat0_ok ok i) _ hr
end Go.Proofs.Ytkeigicobcjleab.TM
namespace Go.Proofs.Ytkeigicobcjleab.TB
open Go.ChangeShapes Go.WideShapes Go.ChangeAt Go.RowKit
open Go.Sort hiding Below
set_option linter.unusedVariables false
set_option maxRecDepth 100000

set_option maxHeartbeats 6400000 in
set_option maxRecDepth 1000000 in
theorem rvals_any (A : Option Addr) (n cap : Nat) (l : List TM.N) (hln : l.length = n) (hr : TM.Row l) (ok : ∀ x ∈ l, TM.okN x) (r : List Int) (hk : R.okR r) (w : World) (hl : LiesN w A l) :
    Calls Try.prog 22 #[.slice A n cap, .agg (RB.enc r)] w fun e w' => ∃ g, e = .returned (.slice (some ⟨g, 0, none⟩) n n) ∧ Row w' g n (fun j => .int .u32 (TM.val l r j)) ∧ Below w.heap.size w w' ∧ w.heap.size ≤ g := by
  obtain ⟨i0, hi, hz0, hz1, hz2⟩ := info_parts infou
  have hn : n ≤ 65536 := by rw [← hln]; exact hr.1
  have HH := hid (And.intro hln (And.intro ok (And.intro hl (And.intro hr hk))))
  have hB1 := al w (.cells (RB.enc r) 24)
  have hR1 := RB.Rec.new w r hk.1
  have hsz : (w.alloc (.cells (RB.enc r) 24)).heap.size = w.heap.size + 1 := by simp
  clear hln ok hl hr hk
  go_enter Try.func22, Try.ntmps22
  go_wp2_with (at_make; refine wpList_make_full _ rfl _ _ 62 rfl (w.heap.size + 1) 22 i0 (.int .u32 0) 1 Try.underlying62 hi hz0 hz1 .i64 .i64 n n n rfl rfl rfl rfl ?c1 ?c2 (Nat.le_of_eq hsz.symm) ?_)
  case c1 => rw [hz2]; omega
  case c2 => unfold maxLen; omega
  intro wm hown hgrow
  have hbm := (Below.refl _ (w.alloc (.cells (RB.enc r) 24))).grown hgrow (Nat.le_refl _) (by intro k hk; cases hk)
  have HM := hid (show Row wm (w.heap.size + 1) n (fun j => .int .u32 (if j < 0 then TM.val l r j else 0)) ∧ RB.Rec wm w.heap.size r ∧ Below w.heap.size w wm from
    ⟨(Row.of_own hown (fun j hj => made_get (.int .u32 0) n j hj) (hown.lt _ rfl).2).congr fun j _ => rfl, hR1.below hbm (by omega), hB1.trans (hbm.mono hB1.size)⟩)
  clear hown hgrow hbm hB1 hR1 hsz
  go_wp2
  go_loopw [6] (fun iv wr => ∃ (k : Nat), k ≤ n ∧ iv = .int .i64 k ∧ Hid (Row wr (w.heap.size + 1) n (fun j => .int .u32 (if j < k then TM.val l r j else 0)) ∧ RB.Rec wr w.heap.size r ∧ Below w.heap.size w wr)) (fun iv _ => n - (intOf iv).toNat)
  case atStart => exact ⟨0, Nat.zero_le _, rfl, HM.out⟩
  case round =>
    clear HM
    obtain ⟨k, hk, rfl, HR⟩ := hrel
    by_cases hlt : k < n
    · have i2 : (k : Int) < (n : Int) := by omega
      have hkl : k < l.length := by rw [HH.out.1]; exact hlt
      obtain ⟨b, o, rfl, hly⟩ := HH.out.2.2.1.ly (by omega)
      obtain ⟨x, hx⟩ : ∃ x, l[k] = x := ⟨_, rfl⟩
      have h0x : TM.nat0 l k = x := by rw [TM.nat0_eq hkl]; exact hx
      have hm := TM.may_ok (by rw [← h0x]; exact HH.out.2.2.2.1.2 k hkl : TM.may x k = true)
      have HQ := hid (fun W (hb : Below w.heap.size w W) => (by rw [← hx]; exact (hly.far hb hly.1).2 k hkl : NodeAt W b o k x))
      have HV := hid (show TM.val l r k = TM.evalN x (TM.val l r) r from by rw [TM.val_row HH.out.2.2.2.1 r hkl, h0x])
      have HBd := hid (fun j => TM.val_bd HH.out.2.1 HH.out.2.2.2.2 j (l := l))
      have HS := hid (fun (v : Int) (h : TM.val l r k = v) W (h1 : Row W (w.heap.size + 1) n (fun j => .int .u32 (if j < k then TM.val l r j else 0))) => (show Row (W.setCell ⟨w.heap.size + 1, k, none⟩ (.int .u32 v)) (w.heap.size + 1) n (fun j => .int .u32 (if j < k + 1 then TM.val l r j else 0)) from (h1.set k hlt _).congr fun j hj => by
        by_cases e : j = k
        · subst e; rw [if_pos rfl, if_pos (by omega), h]
        · rw [if_neg e]
          by_cases e2 : j < k
          · rw [if_pos e2, if_pos (by omega)]
          · rw [if_neg e2, if_neg (by omega)]))
      clear hx hly
      obtain ⟨xo, xa, xb, xk⟩ := x
      obtain ⟨q0, q1, q2, q3⟩ := HQ.out wr HR.out.2.2
      have hokx := TM.nat0_ok HH.out.2.1 k
      rw [h0x] at hokx
      obtain ⟨b0, b1, b2, b3⟩ := hokx
      simp only at q0 q1 q2 q3 hm b0 b1 b2 b3
      clear h0x
      have c4 := HR.out.1.cell k hlt
      have f4 := HR.out.1.froz k hlt
      by_cases h1 : xo = 1
      · subst h1
        have hv : TM.val l r k = xk := by rw [HV.out]; unfold TM.evalN; rw [if_pos rfl]
        have HF := hid (And.intro (HS.out xk hv wr HR.out.1) (And.intro ((show RB.Rec (wr.setCell ⟨w.heap.size + 1, k, none⟩ (.int .u32 xk)) w.heap.size r from ⟨by rw [Below.heap_setCell _ _ _ _ (show w.heap.size ≠ w.heap.size + 1 by omega)]; exact HR.out.2.1.1, HR.out.2.1.2⟩)) (HR.out.2.2.setCell (p := ⟨w.heap.size + 1, k, none⟩) (by simp) (.int .u32 xk))))
        clear hv HV HS hm
        go_wp2
        go_roundw
        case rel => exact ⟨k + 1, by omega, by go_num, HF.out⟩
        case measure => simp [intOf]; omega
      · have d1 : (xo == 1) = false := beq_eq_false_iff_ne.2 h1
        by_cases h2 : xo = 2
        · subst h2
          obtain ⟨d, rfl⟩ : ∃ d : Nat, xk = d := ⟨xk.toNat, by omega⟩
          have hd : d < 16 := by rcases hm with h | h | h | h <;> omega
          obtain ⟨v, hv0⟩ : ∃ v, r.getD d 0 = v := ⟨_, rfl⟩
          have hv : TM.val l r k = v := by rw [HV.out]; unfold TM.evalN; rw [if_neg h1, if_pos rfl]; simpa using hv0
          have cr := HR.out.2.1.cell d hd
          rw [show R.at_ r d = v from hv0] at cr
          have i3 : (d : Int) < 16 := by omega
          have HF := hid (And.intro (HS.out v hv wr HR.out.1) (And.intro ((show RB.Rec (wr.setCell ⟨w.heap.size + 1, k, none⟩ (.int .u32 v)) w.heap.size r from ⟨by rw [Below.heap_setCell _ _ _ _ (show w.heap.size ≠ w.heap.size + 1 by omega)]; exact HR.out.2.1.1, HR.out.2.1.2⟩)) (HR.out.2.2.setCell (p := ⟨w.heap.size + 1, k, none⟩) (by simp) (.int .u32 v))))
          clear hv hv0 HV HS hm h1 HR
          go_wp2
          go_roundw
          case rel => exact ⟨k + 1, by omega, by go_num, HF.out⟩
          case measure => simp [intOf]; omega
        · have d2 : (xo == 2) = false := beq_eq_false_iff_ne.2 h2
          have ha : 0 ≤ xa ∧ xa < k := by rcases hm with h | h | h | h <;> omega
          obtain ⟨a, rfl⟩ : ∃ a : Nat, xa = a := ⟨xa.toNat, by omega⟩
          have hak : a < k := by omega
          have i3 : (a : Int) < (n : Int) := by omega
          have ca := HR.out.1.cell a (by omega)
          rw [if_pos hak] at ca
          have ba := HBd.out a
          obtain ⟨va, hva⟩ : ∃ va, TM.val l r a = va := ⟨_, rfl⟩
          rw [hva] at ca ba
          by_cases h3 : xo = 384
          · subst h3
            obtain ⟨v, hv0⟩ : ∃ v, WM.val 128 va 0 = v := ⟨_, rfl⟩
            have hv : TM.val l r k = v := by
              rw [HV.out]; unfold TM.evalN; rw [if_neg h1, if_neg h2, if_pos rfl]
              simp only [Int.toNat_natCast]; rw [hva, hv0]
            have HC := hid (fun W => WB.ralu_any 128 va 0 ba.1 ba.2 (by omega) (by omega) W)
            rw [hv0] at HC
            clear hva hv0 ba HV hm h1 h2
            go_wp2_with fail
            refine (HC.out _).mono ?_
            rintro e w3 ⟨rfl, hb⟩
            have hR3 := HR.out.1.below hb
            have c5 := hR3.cell k hlt
            have f5 := hR3.froz k hlt
            have hb3 := (stp (hid HR.out.2.2) hb).out
            have hrc := HR.out.2.1.below hb (Nat.lt_of_lt_of_le (Nat.lt_succ_self _) (Nat.le_of_lt HR.out.1.lt))
            have HF := hid (And.intro (HS.out v hv w3 hR3) (And.intro ((show RB.Rec (w3.setCell ⟨w.heap.size + 1, k, none⟩ (.int .u32 v)) w.heap.size r from ⟨by rw [Below.heap_setCell _ _ _ _ (show w.heap.size ≠ w.heap.size + 1 by omega)]; exact hrc.1, hrc.2⟩)) (hb3.setCell (p := ⟨w.heap.size + 1, k, none⟩) (by simp) (.int .u32 v))))
            clear hb hR3 hb3 hrc HR HS hv HC c4 f4 ca q0 q1 q2 q3
            go_wp2
            go_roundw
            case rel => exact ⟨k + 1, by omega, by go_num, HF.out⟩
            case measure => simp [intOf]; omega
          · have d3 : (xo == 384) = false := beq_eq_false_iff_ne.2 h3
            have hb2 : 0 ≤ xb ∧ xb < k := by rcases hm with h | h | h | h <;> omega
            obtain ⟨c, rfl⟩ : ∃ c : Nat, xb = c := ⟨xb.toNat, by omega⟩
            have hck : c < k := by omega
            have i4 : (c : Int) < (n : Int) := by omega
            have cc := HR.out.1.cell c (by omega)
            rw [if_pos hck] at cc
            have bc := HBd.out c
            obtain ⟨vc, hvc⟩ : ∃ vc, TM.val l r c = vc := ⟨_, rfl⟩
            rw [hvc] at cc bc
            have hop : 256 ≤ xo ∧ xo ≤ 416 := by
              rcases hm with h | h | h | h
              · omega
              · omega
              · omega
              · have := TM.isA_12 h.1; omega
            obtain ⟨p, hp⟩ : ∃ p, xo - 256 = p := ⟨_, rfl⟩
            have z1 : IntKind.i64.wrap (xo - 256) = p := (Go.IntWalk.i64_in _ (by omega)).trans hp
            obtain ⟨v, hv0⟩ : ∃ v, WM.val p va vc = v := ⟨_, rfl⟩
            obtain ⟨q, hq⟩ : ∃ q, WM.ok p vc = q := ⟨_, rfl⟩
            have hv : TM.val l r k = if q = true then v else 0 := by
              rw [HV.out]; unfold TM.evalN; rw [if_neg h1, if_neg h2, if_neg h3]
              simp only [Int.toNat_natCast]; rw [hva, hvc, hp, hq, hv0]
            have HC := hid (fun d os => Calls.regrown_of (w := wr) (d := d) (os := os) (v := .tuple #[.int .u32 v, .bool q]) (by
              have := WB.ralu_any p va vc ba.1 ba.2 bc.1 bc.2 (grow (redrawn wr d) os)
              rw [hv0, hq] at this
              exact this))
            have k0 := cell_regrown q0
            have k1 := cell_regrown q1
            have k2 := cell_regrown q2
            have k3 := cell_regrown ca
            have k4 := cell_regrown cc
            clear hva hv0 hvc hq ba bc HV hm h1 h2 h3 hop hp
            go_wp2
            refine wp_region_quiet_below (by kernel_rfl) (by kernel_rfl) ?_
            repeat (quiet_step (exact HC.out _ _))
            refine wpQuiet_nil ?_
            intro w3 hw3
            have hb : Below wr.heap.size wr w3 := by obtain ⟨⟨d, os⟩, rfl⟩ := hw3; exact below_regrown _ _ _
            have hR3 := HR.out.1.below hb
            have c5 := hR3.cell k hlt
            have f5 := hR3.froz k hlt
            have hb3 := (stp (hid HR.out.2.2) hb).out
            have hrc := HR.out.2.1.below hb (Nat.lt_of_lt_of_le (Nat.lt_succ_self _) (Nat.le_of_lt HR.out.1.lt))
            cases q with
            | true =>
              have HF := hid (And.intro (HS.out v hv w3 hR3) (And.intro ((show RB.Rec (w3.setCell ⟨w.heap.size + 1, k, none⟩ (.int .u32 v)) w.heap.size r from ⟨by rw [Below.heap_setCell _ _ _ _ (show w.heap.size ≠ w.heap.size + 1 by omega)]; exact hrc.1, hrc.2⟩)) (hb3.setCell (p := ⟨w.heap.size + 1, k, none⟩) (by simp) (.int .u32 v))))
              clear hb hw3 hR3 hb3 hrc HR HS hv HC c4 f4 ca cc q0 q1 q2 q3 k0 k1 k2 k3 k4
              go_wp2
              go_roundw
              case rel => exact ⟨k + 1, by omega, by go_num, HF.out⟩
              case measure => simp [intOf]; omega
            | false =>
              have HF := hid (show Row w3 (w.heap.size + 1) n (fun j => .int .u32 (if j < k + 1 then TM.val l r j else 0)) ∧ RB.Rec w3 w.heap.size r ∧ Below w.heap.size w w3 from ⟨hR3.congr fun j hj => by
                by_cases e : j = k
                · subst e; rw [if_neg (by omega), if_pos (by omega), hv]; rfl
                · by_cases e2 : j < k
                  · rw [if_pos e2, if_pos (by omega)]
                  · rw [if_neg e2, if_neg (by omega)], hrc, hb3⟩)
              clear hb hw3 hR3 hb3 hrc HR HS hv HC c4 f4 c5 f5 ca cc q0 q1 q2 q3 k0 k1 k2 k3 k4
              go_wp2
              go_roundw
              case rel => exact ⟨k + 1, by omega, by go_num, HF.out⟩
              case measure => simp [intOf]; omega
    · obtain rfl : k = n := by omega
      have HF := hid (show Row wr (w.heap.size + 1) k (fun j => .int .u32 (TM.val l r j)) from HR.out.1.congr fun j hj => by rw [if_pos hj])
      go_wp2
      go_ret
      exact ⟨w.heap.size + 1, rfl, HF.out, HR.out.2.2, by omega⟩
end Go.Proofs.Ytkeigicobcjleab.TB
namespace Go.Proofs.Ytkeigicobcjleab.TB
open Go.ChangeShapes Go.WideShapes Go.ChangeAt Go.RowKit
open Go.Sort hiding Below
set_option linter.unusedVariables false
set_option maxRecDepth 100000

theorem guardN (op : BinOp) (x y : Operand) (xs ys : Array Value) (W : World) : (eqGuard op 28 x y (.agg xs) (.agg ys)).run Try.prog W = .ok () W :=
  run_eqGuard_agg W op 28 x y xs ys (by kernel_rfl)
theorem heldN : Try.prog.stoodInHeld 28 = false := by kernel_rfl
theorem fieldsN : Try.prog.underlying 28 = some (.struct (Try.prog.fieldsOf 28)) := by kernel_rfl
theorem eqN (o1 a1 b1 k1 o2 a2 b2 k2 : Int) (d : Nat) (W : World) :
    (Op.equalIn (d + 2) 28 (.agg #[.int .i64 o1, .int .i64 a1, .int .i64 b1, .int .u32 k1]) (.agg #[.int .i64 o2, .int .i64 a2, .int .i64 b2, .int .u32 k2])).run Try.prog W = .ok (decide ((o1, a1, b1, k1) = (o2, a2, b2, k2))) W := by
  rw [run_equalIn_struct W (d + 1) 28 _ _ fieldsN heldN]
  have hu := Try.underlying28
  rw [fieldsN] at hu
  simp only [Option.some.injEq, TypeDesc.struct.injEq] at hu
  rw [hu]
  have c3 : Try.prog.cellsOf 3 = 1 := by kernel_rfl
  have c37 : Try.prog.cellsOf 22 = 1 := by kernel_rfl
  simp [Op.eqFields, part, go_sem, Try.underlying3, Try.underlying22]
  repeat' split
  all_goals simp_all
theorem eqlN (o1 a1 b1 k1 o2 a2 b2 k2 : Int) (W : World) :
    (binOp .eql 28 (.agg #[.int .i64 o1, .int .i64 a1, .int .i64 b1, .int .u32 k1]) (.agg #[.int .i64 o2, .int .i64 a2, .int .i64 b2, .int .u32 k2])).run Try.prog W = .ok (.bool (decide ((o1, a1, b1, k1) = (o2, a2, b2, k2)))) W := by
  rw [run_eql_struct W 28, eqN o1 a1 b1 k1 o2 a2 b2 k2 9998 W]; rfl
theorem neqN (o1 a1 b1 k1 o2 a2 b2 k2 : Int) (W : World) :
    (binOp .neq 28 (.agg #[.int .i64 o1, .int .i64 a1, .int .i64 b1, .int .u32 k1]) (.agg #[.int .i64 o2, .int .i64 a2, .int .i64 b2, .int .u32 k2])).run Try.prog W = .ok (.bool (!decide ((o1, a1, b1, k1) = (o2, a2, b2, k2)))) W := by
  rw [run_neq_struct W 28, eqN o1 a1 b1 k1 o2 a2 b2 k2 9998 W]; rfl
theorem ret_bool {x y : Bool} (h : x = y) : Ending.returned (.bool x) = .returned (.bool y) := by rw [h]
theorem take_next {l m : List TM.N} {k : Nat} (h : k < l.length) (h' : k < m.length) (e : l.take k = m.take k) (ek : l[k] = m[k]) : l.take (k + 1) = m.take (k + 1) := by
  rw [List.take_succ_eq_append_getElem h, List.take_succ_eq_append_getElem h', e, ek]

set_option maxHeartbeats 1600000 in
set_option maxRecDepth 1000000 in
theorem rsame_eq (a b : Option Addr) (l m : List TM.N) (ca cb : Nat) (w : World) (hl : LiesN w a l) (hm : LiesN w b m) (bl : l.length ≤ 65536) (bm : m.length ≤ 65536) (hlen : l.length = m.length) :
    Calls Try.prog 12 #[.slice a l.length ca, .slice b m.length cb] w fun e w' => e = .returned (.bool (decide (l = m))) ∧ ∃ n, w' = w.drewN n := by
  go_enter Try.func12, Try.ntmps12
  go_wp2
  go_loopw [5] (fun i wr => ∃ k q : Nat, k ≤ l.length ∧ i = .int .i64 k ∧ Hid (l.take k = m.take k) ∧ wr = w.drewN q) (fun i _ => l.length - (intOf i).toNat)
  case atStart => exact ⟨0, 0, Nat.zero_le _, rfl, rfl, rfl⟩
  case round =>
    obtain ⟨k, q, hk, rfl, HT, rfl⟩ := hrel
    by_cases hlt : k < l.length
    · have hlt' : k < m.length := by omega
      obtain ⟨b1, o1, rfl, hl2⟩ := hl.ly (by omega)
      obtain ⟨b2, o2, rfl, hm2⟩ := hm.ly (by omega)
      obtain ⟨p0, p1, p2, p3⟩ := hl2.2 k hlt
      obtain ⟨r0, r1, r2, r3⟩ := hm2.2 k hlt'
      have HX : Hid (∀ h : l[k] = m[k], l.take (k + 1) = m.take (k + 1)) := fun h => take_next hlt hlt' HT.out h
      have HY : Hid (∀ h : l[k] ≠ m[k], decide (l = m) = false) := fun h => by simp; intro e; subst e; exact h rfl
      clear hl hm hl2 hm2 HT
      generalize l[k] = x at *
      generalize m[k] = y at *
      obtain ⟨c1, t1, f1, k1⟩ := x
      obtain ⟨c2, t2, f2, k2⟩ := y
      simp only at p0 p1 p2 p3 r0 r1 r2 r3
      have i1 : (k : Int) < (l.length : Int) := by omega
      have i2 : (k : Int) < (m.length : Int) := by omega
      clear hlen
      have hg := guardN
      have hn := neqN c1 t1 f1 k1 c2 t2 f2 k2
      by_cases hxy : (c1, t1, f1, k1) = (c2, t2, f2, k2)
      · have HR := hid (HX.out hxy)
        have hd : decide ((c1, t1, f1, k1) = (c2, t2, f2, k2)) = true := by simpa using hxy
        simp only [hd, Bool.not_true] at hn
        clear hxy hd HX HY
        go_wp2
        go_quiet (fail)
        go_wp2
        go_roundw
        case rel => exact ⟨k + 1, _, by omega, by go_num, HR, rfl⟩
        case measure => simp [intOf]; omega
      · have HR := hid (HY.out hxy)
        have hd : decide ((c1, t1, f1, k1) = (c2, t2, f2, k2)) = false := by simpa using hxy
        simp only [hd, Bool.not_false] at hn
        clear hxy hd HX HY
        go_wp2
        go_quiet (fail)
        go_wp2
        go_ret
        exact ⟨ret_bool HR.out.symm, _, dd _ _ _⟩
    · obtain rfl : k = l.length := by omega
      have HR := hid (show decide (l = m) = true by
        have := HT.out
        rw [List.take_length, hlen, List.take_length] at this
        simpa using this)
      clear hl hm HT
      go_wp2
      go_ret
      exact ⟨ret_bool HR.out.symm, _, rfl⟩
set_option maxHeartbeats 1600000 in
set_option maxRecDepth 1000000 in
theorem rsame_ne (a b : Option Addr) (n1 n2 ca cb : Nat) (w : World) (hlen : n1 ≠ n2) :
    Calls Try.prog 12 #[.slice a n1 ca, .slice b n2 cb] w fun e w' => e = .returned (.bool false) ∧ ∃ n, w' = w.drewN n := by
  have h2 : ((n1 : Int) != (n2 : Int)) = true := by simp; omega
  go_enter Try.func12, Try.ntmps12
  go_wp2
  go_ret
  exact ⟨rfl, 0, rfl⟩
theorem rsame_any (a b : Option Addr) (l m : List TM.N) (n1 n2 ca cb : Nat) (w : World) (h1 : l.length = n1) (h2 : m.length = n2) (hl : LiesN w a l) (hm : LiesN w b m) (b1 : n1 ≤ 65536) (b2 : n2 ≤ 65536) (q : Bool) (hq : decide (l = m) = q) :
    Calls Try.prog 12 #[.slice a n1 ca, .slice b n2 cb] w fun e w' => e = .returned (.bool q) ∧ Below w.heap.size w w' := by
  subst h1 h2 hq
  by_cases e : l.length = m.length
  · exact (rsame_eq a b l m ca cb w hl hm b1 b2 e).mono fun _ _ ⟨h1, n, h2⟩ => ⟨h1, by rw [h2]; exact bdrew (Below.refl _ _) n⟩
  · have hd : decide (l = m) = false := by simp; intro h; exact e (by rw [h])
    rw [hd]
    exact (rsame_ne a b l.length m.length ca cb w e).mono fun _ _ ⟨h1, n, h2⟩ => ⟨h1, by rw [h2]; exact bdrew (Below.refl _ _) n⟩

/-- a row of nodes of the call's own, as a value -/
structure OwnN (w : World) (base : Nat) (a : Option Addr) (n cap : Nat) (l : List TM.N) : Prop where
  own : w.ownsRow base 28 4 (.slice a n cap) n (n4s l)
  len : l.length = n
theorem OwnN.lies {w : World} {base n cap : Nat} {a : Option Addr} {l : List TM.N} (h : OwnN w base a n cap l) : LiesN w a l := by
  rcases h.own.2 with ⟨h1, h2⟩ | ⟨g, c, cur, h1, _, _, h2, _⟩
  · left
    have := h.len
    exact List.eq_nil_of_length_eq_zero (by omega)
  · injection h1 with h3 _ h4
    subst h3 h4
    exact (ly_of_own h.own h.len).lies
theorem OwnN.nil (w : World) (base : Nat) : OwnN w base none 0 0 [] := ⟨World.ownsRow_nil w base _ _, rfl⟩
/-- the block that a row lies in -/
def blk (a : Option Addr) : Option Nat := a.map (·.block)
theorem OwnN.at {w : World} {base n cap : Nat} {a : Option Addr} {l : List TM.N} (h : OwnN w base a n cap l) : ∀ A, a = some A → base ≤ A.block ∧ A.block < w.heap.size := by
  rcases h.own.2 with ⟨h1, h2⟩ | ⟨g, c, cur, h1, h2, h3, _⟩
  · injection h1 with h1; intro A hA; rw [h1] at hA; cases hA
  · intro A hA
    injection h1 with h4
    rw [h4] at hA
    cases hA
    exact ⟨h2, (Array.getElem?_eq_some_iff.1 h3).1⟩
theorem OwnN.grown {W W' : World} {base n cap : Nat} {a : Option Addr} {l : List TM.N} {row : Option Nat} (h : OwnN W base a n cap l) (hg : W.grownBy W' row) (hne : ∀ A, a = some A → some A.block ≠ row) : OwnN W' base a n cap l := by
  refine ⟨⟨h.own.1, ?_⟩, h.len⟩
  rcases h.own.2 with h1 | ⟨g, c, cur, h1, h2, h3, h4⟩
  · exact .inl h1
  · have hg' : some g ≠ row := by
      injection h1 with h1
      exact hne _ h1
    exact .inr ⟨g, c, cur, h1, h2, by rw [hg.block g (Array.getElem?_eq_some_iff.1 h3).1 hg']; exact h3, h4⟩
theorem grown_of_below {W W' : World} (h : Below W.heap.size W W') : W.grownBy W' none := ⟨h.os, h.tape, h.output, h.size, fun k hk _ => h.block k hk⟩
theorem OwnN.below {W W' : World} {base n cap : Nat} {a : Option Addr} {l : List TM.N} (h : OwnN W base a n cap l) (hb : Below W.heap.size W W') : OwnN W' base a n cap l := h.grown (grown_of_below hb) (fun A _ => by simp)
theorem OwnN.cap {w : World} {base n cap : Nat} {a : Option Addr} {l : List TM.N} (h : OwnN w base a n cap l) : n ≤ cap := by
  rcases h.own.2 with ⟨h1, h2⟩ | ⟨g, c, cur, h1, _, _, h2, _⟩
  · injection h1; omega
  · injection h1 with _ _ h3; omega
/-- an append of one node -/
theorem wpList_append_node {w : World} {ops : Array Oper} {rest : List Oper} {o : Oper} {a : Act} {Q : Exit → Act → World → Prop} (hw : Region.wanted o (yielded ops a.tmps) = true) (s x : Operand)
    (ho : o.op = .call { callee := .builtin .append, args := #[s, x], argTypes := #[29, 29] })
    (base n cap c b o' : Nat) (a0 : Option Addr) (A : List TM.N) (y : TM.N) (hs : a.eval s = .slice a0 n cap) (hown : OwnN w base a0 n cap A) (hx : a.eval x = .slice (some ⟨b, o', none⟩) 1 c) (hl : LyN w b o' [y]) (hnm : n ≤ 65536) (hbase : base ≤ w.heap.size)
    (h : ∀ g cap' w', OwnN w' base (some ⟨g, 0, none⟩) (n + 1) cap' (A ++ [y]) → w.grownBy w' (blk a0) → (blk a0 = some g ∨ g = w.heap.size) → wpList Try.prog ops Q rest (a.put o.dst (.slice (some ⟨g, 0, none⟩) (n + 1) cap')) w') : wpList Try.prog ops Q (o :: rest) a w := by
  obtain ⟨i0, hi, hz0, hz1, hz2⟩ := info_parts infoN
  refine wpList_step fun K hK => ?_
  rw [if_pos hw]
  have hbk : ∀ v, v = Value.slice a0 n cap → v.ownBlock = blk a0 := fun v hv => by subst hv; cases a0 <;> rfl
  refine wp_append_lies w s x 29 ho base 28 i0 (.agg #[.int .i64 0, .int .i64 0, .int .i64 0, .int .u32 0]) 4 32 Try.underlying29 hi hz0 hz1 hz2 rfl (by decide) _ n _ hs hown.own ⟨b, o', none⟩ 1 c (n4s [y]) hx (by rw [n4s_len]; rfl) (lies_cells hl) (n4s_one [y]) (by omega) (by unfold maxLen; omega) (by omega) hbase w.heap.size rfl ?_
  intro g cap' w' h1 h2 h3 _
  rw [← n4s_append] at h1
  rw [hbk _ rfl] at h2 h3
  exact hK _ _ (h _ _ _ ⟨h1, by rw [List.length_append, hown.len]; rfl⟩ h2 h3)
/-- an append, and that what the old slice holds stays -/
theorem wp_append_keep {w : World} {o : Oper} {a : Act} {K : Act → World → Prop} {Q : Exit → Act → World → Prop} (s x : Operand) (t : TypeId)
    (ho : o.op = .call { callee := .builtin .append, args := #[s, x], argTypes := #[t, t] })
    (base : Nat) (e : TypeId) (i : TypeInfo) (z : Value) (size bytes : Nat) (ht : Try.prog.underlying t = some (.slice e)) (hi : Try.prog.info? e = some i) (hz : i.zero = some z)
    (hsize : i.size = size) (hby : i.bytes = bytes) (hzs : z.cells.size = size) (hsz : 0 < size)
    (v : Value) (n : Nat) (xs : List Value) (hs : a.eval s = v) (hown : w.ownsRow base e size v n xs)
    (ad : Addr) (m c : Nat) (news : List Value) (hx : a.eval x = .slice (some ad) m c) (hl : news.length = m * size) (hnews : ∀ j u, news[j]? = some u → w.cell? (ad.add j) = some u) (h1 : ∀ u ∈ news, u.oneCell' = true)
    (hm : 0 < m) (h63 : n + m ≤ maxLen) (hbytes : (n + m) * bytes ≤ 140737488355328) (hbase : base ≤ w.heap.size)
    (h : ∀ g cap w', w'.ownsRow base e size (.slice (some ⟨g, 0, none⟩) (n + m) cap) (n + m) (xs ++ news) → w.grownBy w' v.ownBlock → (v.ownBlock = some g ∨ g = w.heap.size) →
      (∀ g0 c0, v = .slice (some ⟨g0, 0, none⟩) n c0 → ∀ j u, xs[j]? = some u → w'.cell? ((⟨g0, 0, none⟩ : Addr).add j) = some u) → K (a.put o.dst (.slice (some ⟨g, 0, none⟩) (n + m) cap)) w') : o.wp Try.prog a w K Q := by
  obtain ⟨g, cap, w', hr, h2, h3, h4, h5⟩ := run_append_lies (P := Try.prog) w t o.type base e i z size bytes ht hi hz hsize hby hzs hsz v n xs hown ad m c news hl hnews h1 hm h63 hbytes hbase w.heap.size rfl
  have hkeep : ∀ g0 c0, v = .slice (some ⟨g0, 0, none⟩) n c0 → ∀ j u, xs[j]? = some u → w'.cell? ((⟨g0, 0, none⟩ : Addr).add j) = some u := by
    intro g0 c0 hv j u hj
    rcases hown.2 with ⟨hv1, _⟩ | ⟨g1, cap1, cur, hv1, hbg, hg, hnc, hcm, hcs, htake⟩
    · rw [hv] at hv1; cases hv1
    · rw [hv] at hv1
      injection hv1 with e1 _ e2
      injection e1 with e1
      injection e1 with e1
      subst e1 e2
      subst hv
      have holds : ∀ j u, xs[j]? = some u → w.cell? ((⟨g0, 0, none⟩ : Addr).add j) = some u := hown.cells (g := g0) rfl
      by_cases hroom : n + m ≤ c0
      · have hfit : n * i.size + news.length ≤ cur.size := by rw [hl, hsize, hcs, ← Nat.add_mul]; exact Nat.mul_le_mul_right _ hroom
        have hr2 := run_append_room (P := Try.prog) w t o.type e i ht hi g0 n c0 cur hg ad m c news (by rw [hsize]; exact hl) hnews h1 hroom hfit
        rw [hr] at hr2
        injection hr2 with q1 q2
        injection q1 with q1
        injection q1 with q1
        injection q1 with q1
        subst q1
        exact h2.cells (g := g) rfl j u (by
          have := (List.getElem?_eq_some_iff.1 hj).1
          rw [List.getElem?_append_left this]; exact hj)
      · have hr2 := run_append_grow (P := Try.prog) w t o.type e i z ht hi hz ⟨g0, 0, none⟩ n c0 xs (by rw [hsize]; exact hown.1) holds ad m c news (by rw [hsize]; exact hl) hnews (by omega) (by unfold maxLen at h63; omega) (growslice_fits (by omega) (by rw [hby]; exact hbytes))
        rw [hr] at hr2
        injection hr2 with q1 q2
        have hlt : g0 < w.heap.size := (Array.getElem?_eq_some_iff.1 hg).1
        have hbel : Below w.heap.size w w' := by rw [q2]; exact (Below.refl _ _).drew.alloc (Nat.le_refl _) _
        have := hbel.cell (p := (⟨g0, 0, none⟩ : Addr).add j) (by unfold Addr.add; split <;> exact hlt)
        rw [this]; exact holds j u hj
  unfold Oper.wp execOp
  simp only [ho, resolve, invoke, builtin, Sem.run_bind, Sem.run_pure, Result.andThen_ok, List.map_toArray, List.map_cons, List.map_nil, hs, hx, hr]
  exact h g cap w' h2 h3 h4 hkeep
/-- the same, of nodes -/
theorem wpList_append_nodeK {w : World} {ops : Array Oper} {rest : List Oper} {o : Oper} {a : Act} {Q : Exit → Act → World → Prop} (hw : Region.wanted o (yielded ops a.tmps) = true) (s x : Operand)
    (ho : o.op = .call { callee := .builtin .append, args := #[s, x], argTypes := #[29, 29] })
    (base n cap c b o' : Nat) (a0 : Option Addr) (A : List TM.N) (y : TM.N) (hs : a.eval s = .slice a0 n cap) (hown : OwnN w base a0 n cap A) (hx : a.eval x = .slice (some ⟨b, o', none⟩) 1 c) (hl : LyN w b o' [y]) (hnm : n ≤ 65536) (hbase : base ≤ w.heap.size)
    (h : ∀ g cap' w', OwnN w' base (some ⟨g, 0, none⟩) (n + 1) cap' (A ++ [y]) → w.grownBy w' (blk a0) → (blk a0 = some g ∨ g = w.heap.size) → LiesN w' a0 A → wpList Try.prog ops Q rest (a.put o.dst (.slice (some ⟨g, 0, none⟩) (n + 1) cap')) w') : wpList Try.prog ops Q (o :: rest) a w := by
  obtain ⟨i0, hi, hz0, hz1, hz2⟩ := info_parts infoN
  refine wpList_step fun K hK => ?_
  rw [if_pos hw]
  have hbk : ∀ v, v = Value.slice a0 n cap → v.ownBlock = blk a0 := fun v hv => by subst hv; cases a0 <;> rfl
  refine wp_append_keep s x 29 ho base 28 i0 (.agg #[.int .i64 0, .int .i64 0, .int .i64 0, .int .u32 0]) 4 32 Try.underlying29 hi hz0 hz1 hz2 rfl (by decide) _ n _ hs hown.own ⟨b, o', none⟩ 1 c (n4s [y]) hx (by rw [n4s_len]; rfl) (lies_cells hl) (n4s_one [y]) (by omega) (by unfold maxLen; omega) (by omega) hbase ?_
  intro g cap' w' h1 h2 h3 h4
  rw [← n4s_append] at h1
  rw [hbk _ rfl] at h2 h3
  refine hK _ _ (h _ _ _ ⟨h1, by rw [List.length_append, hown.len]; rfl⟩ h2 h3 ?_)
  rcases hown.own.2 with ⟨e1, e2⟩ | ⟨g0, c0, cur, e1, e3, e4, _⟩
  · left
    have := hown.len
    exact List.eq_nil_of_length_eq_zero (by omega)
  · injection e1 with e5 _ e6
    subst e5 e6
    have hlt : g0 < w.heap.size := (Array.getElem?_eq_some_iff.1 e4).1
    refine .inr ⟨g0, 0, rfl, Nat.lt_of_lt_of_le hlt h2.size, fun j hj => ?_⟩
    have key := h4 g0 cap rfl
    have e0 := key (j * 4 + 0) _ (n4s_get A j 0 hj (by omega))
    have e1 := key (j * 4 + 1) _ (n4s_get A j 1 hj (by omega))
    have e2 := key (j * 4 + 2) _ (n4s_get A j 2 hj (by omega))
    have e3 := key (j * 4 + 3) _ (n4s_get A j 3 hj (by omega))
    rw [add_plain] at e0 e1 e2 e3
    simp only [Nat.add_zero, Nat.zero_add] at e0 e1 e2 e3
    unfold NodeAt
    simp only [Nat.zero_add]
    exact ⟨e0, e1, e2, e3⟩
theorem ly_one (w : World) (x : TM.N) : LyN (w.alloc (.cells #[.int .i64 x.1, .int .i64 x.2.1, .int .i64 x.2.2.1, .int .u32 x.2.2.2] 28)) w.heap.size 0 [x] := by
  have h := (NAt.new w x.1 x.2.1 x.2.2.1 x.2.2.2).cells
  refine ⟨by simp, fun j hj => ?_⟩
  have hj0 : j = 0 := by simp at hj; omega
  subst hj0
  exact ⟨h.1, h.2.1, h.2.2.1, h.2.2.2.1⟩
end Go.Proofs.Ytkeigicobcjleab.TB
namespace Go.Proofs.Ytkeigicobcjleab.TB
open Go.ChangeShapes Go.WideShapes Go.ChangeAt Go.RowKit
open Go.Sort hiding Below
set_option linter.unusedVariables false
set_option maxRecDepth 100000

theorem gtrans {a b c : World} {row : Option Nat} (h1 : Below a.heap.size a b) (h2 : b.grownBy c row) : a.grownBy c row :=
  ⟨h2.os.trans h1.os, h2.tape.trans h1.tape, h2.output.trans h1.output, Nat.le_trans h1.size h2.size, fun k hk hne => (h2.block k (Nat.lt_of_lt_of_le hk h1.size) hne).trans (h1.block k hk)⟩
theorem blk_at {a : Option Addr} {g : Nat} (h : blk a = some g) : ∃ A, a = some A ∧ A.block = g := by
  cases a with
  | none => cases h
  | some A => injection h with h; exact ⟨A, rfl, h⟩

end Go.Proofs.Ytkeigicobcjleab.TB
namespace Go.Proofs.Ytkeigicobcjleab.TB
open Go.ChangeShapes Go.WideShapes Go.ChangeAt Go.RowKit
open Go.Sort hiding Below
set_option linter.unusedVariables false
set_option maxRecDepth 100000

/-- what lies apart from the row that grows stays: two steps -/
theorem gcomp {a b c : World} {r s : Option Nat} (h1 : a.grownBy b r) (h2 : b.grownBy c s) (hs : ∀ k, s = some k → r = some k ∨ a.heap.size ≤ k) : a.grownBy c r :=
  ⟨h2.os.trans h1.os, h2.tape.trans h1.tape, h2.output.trans h1.output, Nat.le_trans h1.size h2.size, fun k hk hne => (h2.block k (Nat.lt_of_lt_of_le hk h1.size) (fun e => by
    rcases hs k e.symm with h | h
    · exact hne h.symm
    · omega)).trans (h1.block k hk hne)⟩
theorem Row.grown {W W' : World} {g n : Nat} {V : Nat → Value} {row : Option Nat} (h : Row W g n V) (hg : W.grownBy W' row) (hne : some g ≠ row) : Row W' g n V := by
  have e := hg.block g h.lt hne
  exact ⟨Nat.lt_of_lt_of_le h.lt hg.size, fun j hj => by rw [← h.cell j hj]; exact World.cell?_of_block e, fun j hj => by rw [← h.froz j hj]; exact World.frozen?_of_block e⟩
theorem gbelow {base : Nat} {w W : World} {r : Option Nat} (h : w.grownBy W r) (hb : base ≤ w.heap.size) (hr : ∀ k, r = some k → base ≤ k) : Below base w W := (Below.refl base w).grown h hb hr

end Go.Proofs.Ytkeigicobcjleab.TB
