/-
  The reference's Values of layer 11, as a walk over the Go text.
-/
import Derived.Test.YtmjeoknndnbglaaTerRefB
import Derived.Test.YtmjeoknndnbglaaHX
import Derived.Test.YtmjeoknndnbglaaH5
namespace Go.Proofs.Ytmjeoknndnbglaa.TM
theorem eval_bd {x : N} (hx : okN x) (v : Nat → Int) {r : List Int} (hr : R.okR r) : 0 ≤ evalN x v r ∧ evalN x v r < 4294967296 := by
  unfold evalN
  split
  · exact hx.2.2.2
  · split
    · exact hr.2 _
    · split
      · exact WM.val_range _ _ _
      · split
        · exact WM.val_range _ _ _
        · omega
theorem val_bd {l : List N} (ok : ∀ x ∈ l, okN x) {r : List Int} (hr : R.okR r) (i : Nat) : 0 ≤ val l r i ∧ val l r i < 4294967296 := by
  rw [val_at]; exact eval_bd (nat0_ok ok i) _ hr
end Go.Proofs.Ytmjeoknndnbglaa.TM
namespace Go.Proofs.Ytmjeoknndnbglaa.TB
open Go.ChangeShapes Go.WideShapes Go.ChangeAt Go.RowKit
open Go.Sort hiding Below
set_option linter.unusedVariables false
set_option maxRecDepth 100000

set_option maxHeartbeats 6400000 in
set_option maxRecDepth 1000000 in
theorem rvals_any (A : Option Addr) (n cap : Nat) (l : List TM.N) (hln : l.length = n) (hr : TM.Row l) (ok : ∀ x ∈ l, TM.okN x) (r : List Int) (hk : R.okR r) (w : World) (hl : LiesN w A l) :
    Calls Try.prog 14 #[.slice A n cap, .agg (RB.enc r)] w fun e w' => ∃ g, e = .returned (.slice (some ⟨g, 0, none⟩) n n) ∧ Row w' g n (fun j => .int .u32 (TM.val l r j)) ∧ Below w.heap.size w w' ∧ w.heap.size ≤ g := by
  obtain ⟨i0, hi, hz0, hz1, hz2⟩ := info_parts infou
  have hn : n ≤ 65536 := by rw [← hln]; exact hr.1
  have HH := hid (And.intro hln (And.intro ok (And.intro hl (And.intro hr hk))))
  have hB1 := al w (.cells (RB.enc r) 25)
  have hR1 := RB.Rec.new w r hk.1
  have hsz : (w.alloc (.cells (RB.enc r) 25)).heap.size = w.heap.size + 1 := by simp
  clear hln ok hl hr hk
  go_enter Try.func14, Try.ntmps14
  go_wp2_with (at_make; refine wpList_make_full _ rfl _ _ 32 rfl (w.heap.size + 1) 23 i0 (.int .u32 0) 1 Try.underlying32 hi hz0 hz1 .i64 .i64 n n n rfl rfl rfl rfl ?c1 ?c2 (Nat.le_of_eq hsz.symm) ?_)
  case c1 => rw [hz2]; omega
  case c2 => unfold maxLen; omega
  intro wm hown hgrow
  have hbm := (Below.refl _ (w.alloc (.cells (RB.enc r) 25))).grown hgrow (Nat.le_refl _) (by intro k hk; cases hk)
  have HM := hid (show Row wm (w.heap.size + 1) n (fun j => .int .u32 (if j < 0 then TM.val l r j else 0)) ∧ RB.Rec wm w.heap.size r ∧ Below w.heap.size w wm from
    ⟨(Row.of_own hown (fun j hj => made_get (.int .u32 0) n j hj) (hown.lt _ rfl).2).congr fun j _ => rfl, hR1.below hbm (by omega), hB1.trans (hbm.mono hB1.size)⟩)
  clear hown hgrow hbm hB1 hR1 hsz
  go_wp2
  go_loopw [6] (fun iv wr => ∃ (k : Nat), k ≤ n ∧ iv = .int .i64 k ∧ Hid (Row wr (w.heap.size + 1) n (fun j => .int .u32 (if j < k then TM.val l r j else 0)) ∧ RB.Rec wr w.heap.size r ∧ Below w.heap.size w wr)) (fun iv _ => n - (intOf iv).toNat)
  case atStart => exact ⟨0, Nat.zero_le _, rfl, HM.out⟩
  case round =>
    clear HM
    obtain ⟨k, hk, rfl, HR⟩ := hrel
    by_cases hlt : k < n
    · have i2 : (k : Int) < (n : Int) := by omega
      have hkl : k < l.length := by rw [HH.out.1]; exact hlt
      obtain ⟨b, o, rfl, hly⟩ := HH.out.2.2.1.ly (by omega)
      obtain ⟨x, hx⟩ : ∃ x, l[k] = x := ⟨_, rfl⟩
      have h0x : TM.nat0 l k = x := by rw [TM.nat0_eq hkl]; exact hx
      have hm := TM.may_ok (by rw [← h0x]; exact HH.out.2.2.2.1.2 k hkl : TM.may x k = true)
      have HQ := hid (fun W (hb : Below w.heap.size w W) => (by rw [← hx]; exact (hly.far hb hly.1).2 k hkl : NodeAt W b o k x))
      have HV := hid (show TM.val l r k = TM.evalN x (TM.val l r) r from by rw [TM.val_row HH.out.2.2.2.1 r hkl, h0x])
      have HBd := hid (fun j => TM.val_bd HH.out.2.1 HH.out.2.2.2.2 j (l := l))
      have HS := hid (fun (v : Int) (h : TM.val l r k = v) W (h1 : Row W (w.heap.size + 1) n (fun j => .int .u32 (if j < k then TM.val l r j else 0))) => (show Row (W.setCell ⟨w.heap.size + 1, k, none⟩ (.int .u32 v)) (w.heap.size + 1) n (fun j => .int .u32 (if j < k + 1 then TM.val l r j else 0)) from (h1.set k hlt _).congr fun j hj => by
        by_cases e : j = k
        · subst e; rw [if_pos rfl, if_pos (by omega), h]
        · rw [if_neg e]
          by_cases e2 : j < k
          · rw [if_pos e2, if_pos (by omega)]
          · rw [if_neg e2, if_neg (by omega)]))
      clear hx hly
      obtain ⟨xo, xa, xb, xk⟩ := x
      obtain ⟨q0, q1, q2, q3⟩ := HQ.out wr HR.out.2.2
      have hokx := TM.nat0_ok HH.out.2.1 k
      rw [h0x] at hokx
      obtain ⟨b0, b1, b2, b3⟩ := hokx
      simp only at q0 q1 q2 q3 hm b0 b1 b2 b3
      clear h0x
      have c4 := HR.out.1.cell k hlt
      have f4 := HR.out.1.froz k hlt
      by_cases h1 : xo = 1
      · subst h1
        have hv : TM.val l r k = xk := by rw [HV.out]; unfold TM.evalN; rw [if_pos rfl]
        have HF := hid (And.intro (HS.out xk hv wr HR.out.1) (And.intro ((show RB.Rec (wr.setCell ⟨w.heap.size + 1, k, none⟩ (.int .u32 xk)) w.heap.size r from ⟨by rw [Below.heap_setCell _ _ _ _ (show w.heap.size ≠ w.heap.size + 1 by omega)]; exact HR.out.2.1.1, HR.out.2.1.2⟩)) (HR.out.2.2.setCell (p := ⟨w.heap.size + 1, k, none⟩) (by simp) (.int .u32 xk))))
        clear hv HV HS hm
        go_wp2
        go_roundw
        case rel => exact ⟨k + 1, by omega, by go_num, HF.out⟩
        case measure => simp [intOf]; omega
      · have d1 : (xo == 1) = false := beq_eq_false_iff_ne.2 h1
        by_cases h2 : xo = 2
        · subst h2
          obtain ⟨d, rfl⟩ : ∃ d : Nat, xk = d := ⟨xk.toNat, by omega⟩
          have hd : d < 16 := by rcases hm with h | h | h | h <;> omega
          obtain ⟨v, hv0⟩ : ∃ v, r.getD d 0 = v := ⟨_, rfl⟩
          have hv : TM.val l r k = v := by rw [HV.out]; unfold TM.evalN; rw [if_neg h1, if_pos rfl]; simpa using hv0
          have cr := HR.out.2.1.cell d hd
          rw [show R.at_ r d = v from hv0] at cr
          have i3 : (d : Int) < 16 := by omega
          have HF := hid (And.intro (HS.out v hv wr HR.out.1) (And.intro ((show RB.Rec (wr.setCell ⟨w.heap.size + 1, k, none⟩ (.int .u32 v)) w.heap.size r from ⟨by rw [Below.heap_setCell _ _ _ _ (show w.heap.size ≠ w.heap.size + 1 by omega)]; exact HR.out.2.1.1, HR.out.2.1.2⟩)) (HR.out.2.2.setCell (p := ⟨w.heap.size + 1, k, none⟩) (by simp) (.int .u32 v))))
          clear hv hv0 HV HS hm h1 HR
          go_wp2
          go_roundw
          case rel => exact ⟨k + 1, by omega, by go_num, HF.out⟩
          case measure => simp [intOf]; omega
        · have d2 : (xo == 2) = false := beq_eq_false_iff_ne.2 h2
          have ha : 0 ≤ xa ∧ xa < k := by rcases hm with h | h | h | h <;> omega
          obtain ⟨a, rfl⟩ : ∃ a : Nat, xa = a := ⟨xa.toNat, by omega⟩
          have hak : a < k := by omega
          have i3 : (a : Int) < (n : Int) := by omega
          have ca := HR.out.1.cell a (by omega)
          rw [if_pos hak] at ca
          have ba := HBd.out a
          obtain ⟨va, hva⟩ : ∃ va, TM.val l r a = va := ⟨_, rfl⟩
          rw [hva] at ca ba
          by_cases h3 : xo = 384
          · subst h3
            obtain ⟨v, hv0⟩ : ∃ v, WM.val 128 va 0 = v := ⟨_, rfl⟩
            have hv : TM.val l r k = v := by
              rw [HV.out]; unfold TM.evalN; rw [if_neg h1, if_neg h2, if_pos rfl]
              simp only [Int.toNat_natCast]; rw [hva, hv0]
            have HC := hid (fun W => WB.ralu_any 128 va 0 ba.1 ba.2 (by omega) (by omega) W)
            rw [hv0] at HC
            clear hva hv0 ba HV hm h1 h2
            go_wp2_with fail
            refine (HC.out _).mono ?_
            rintro e w3 ⟨rfl, hb⟩
            have hR3 := HR.out.1.below hb
            have c5 := hR3.cell k hlt
            have f5 := hR3.froz k hlt
            have hb3 := (stp (hid HR.out.2.2) hb).out
            have hrc := HR.out.2.1.below hb (Nat.lt_of_lt_of_le (Nat.lt_succ_self _) (Nat.le_of_lt HR.out.1.lt))
            have HF := hid (And.intro (HS.out v hv w3 hR3) (And.intro ((show RB.Rec (w3.setCell ⟨w.heap.size + 1, k, none⟩ (.int .u32 v)) w.heap.size r from ⟨by rw [Below.heap_setCell _ _ _ _ (show w.heap.size ≠ w.heap.size + 1 by omega)]; exact hrc.1, hrc.2⟩)) (hb3.setCell (p := ⟨w.heap.size + 1, k, none⟩) (by simp) (.int .u32 v))))
            clear hb hR3 hb3 hrc HR HS hv HC c4 f4 ca q0 q1 q2 q3
            go_wp2
            go_roundw
            case rel => exact ⟨k + 1, by omega, by go_num, HF.out⟩
            case measure => simp [intOf]; omega
          · have d3 : (xo == 384) = false := beq_eq_false_iff_ne.2 h3
            have hb2 : 0 ≤ xb ∧ xb < k := by rcases hm with h | h | h | h <;> omega
            obtain ⟨c, rfl⟩ : ∃ c : Nat, xb = c := ⟨xb.toNat, by omega⟩
            have hck : c < k := by omega
            have i4 : (c : Int) < (n : Int) := by omega
            have cc := HR.out.1.cell c (by omega)
            rw [if_pos hck] at cc
            have bc := HBd.out c
            obtain ⟨vc, hvc⟩ : ∃ vc, TM.val l r c = vc := ⟨_, rfl⟩
            rw [hvc] at cc bc
            have hop : 256 ≤ xo ∧ xo ≤ 416 := by
              rcases hm with h | h | h | h
              · omega
              · omega
              · omega
              · have := TM.isA_12 h.1; omega
            obtain ⟨p, hp⟩ : ∃ p, xo - 256 = p := ⟨_, rfl⟩
            have z1 : IntKind.i64.wrap (xo - 256) = p := (Go.IntWalk.i64_in _ (by omega)).trans hp
            obtain ⟨v, hv0⟩ : ∃ v, WM.val p va vc = v := ⟨_, rfl⟩
            obtain ⟨q, hq⟩ : ∃ q, WM.ok p vc = q := ⟨_, rfl⟩
            have hv : TM.val l r k = if q = true then v else 0 := by
              rw [HV.out]; unfold TM.evalN; rw [if_neg h1, if_neg h2, if_neg h3]
              simp only [Int.toNat_natCast]; rw [hva, hvc, hp, hq, hv0]
            have HC := hid (fun d os => Calls.regrown_of (w := wr) (d := d) (os := os) (v := .tuple #[.int .u32 v, .bool q]) (by
              have := WB.ralu_any p va vc ba.1 ba.2 bc.1 bc.2 (grow (redrawn wr d) os)
              rw [hv0, hq] at this
              exact this))
            have k0 := cell_regrown q0
            have k1 := cell_regrown q1
            have k2 := cell_regrown q2
            have k3 := cell_regrown ca
            have k4 := cell_regrown cc
            clear hva hv0 hvc hq ba bc HV hm h1 h2 h3 hop hp
            go_wp2
            refine wp_region_quiet_below (by kernel_rfl) (by kernel_rfl) ?_
            repeat (quiet_step (exact HC.out _ _))
            refine wpQuiet_nil ?_
            intro w3 hw3
            have hb : Below wr.heap.size wr w3 := by obtain ⟨⟨d, os⟩, rfl⟩ := hw3; exact below_regrown _ _ _
            have hR3 := HR.out.1.below hb
            have c5 := hR3.cell k hlt
            have f5 := hR3.froz k hlt
            have hb3 := (stp (hid HR.out.2.2) hb).out
            have hrc := HR.out.2.1.below hb (Nat.lt_of_lt_of_le (Nat.lt_succ_self _) (Nat.le_of_lt HR.out.1.lt))
            cases q with
            | true =>
              have HF := hid (And.intro (HS.out v hv w3 hR3) (And.intro ((show RB.Rec (w3.setCell ⟨w.heap.size + 1, k, none⟩ (.int .u32 v)) w.heap.size r from ⟨by rw [Below.heap_setCell _ _ _ _ (show w.heap.size ≠ w.heap.size + 1 by omega)]; exact hrc.1, hrc.2⟩)) (hb3.setCell (p := ⟨w.heap.size + 1, k, none⟩) (by simp) (.int .u32 v))))
              clear hb hw3 hR3 hb3 hrc HR HS hv HC c4 f4 ca cc q0 q1 q2 q3 k0 k1 k2 k3 k4
              go_wp2
              go_roundw
              case rel => exact ⟨k + 1, by omega, by go_num, HF.out⟩
              case measure => simp [intOf]; omega
            | false =>
              have HF := hid (show Row w3 (w.heap.size + 1) n (fun j => .int .u32 (if j < k + 1 then TM.val l r j else 0)) ∧ RB.Rec w3 w.heap.size r ∧ Below w.heap.size w w3 from ⟨hR3.congr fun j hj => by
                by_cases e : j = k
                · subst e; rw [if_neg (by omega), if_pos (by omega), hv]; rfl
                · by_cases e2 : j < k
                  · rw [if_pos e2, if_pos (by omega)]
                  · rw [if_neg e2, if_neg (by omega)], hrc, hb3⟩)
              clear hb hw3 hR3 hb3 hrc HR HS hv HC c4 f4 c5 f5 ca cc q0 q1 q2 q3 k0 k1 k2 k3 k4
              go_wp2
              go_roundw
              case rel => exact ⟨k + 1, by omega, by go_num, HF.out⟩
              case measure => simp [intOf]; omega
    · obtain rfl : k = n := by omega
      have HF := hid (show Row wr (w.heap.size + 1) k (fun j => .int .u32 (TM.val l r j)) from HR.out.1.congr fun j hj => by rw [if_pos hj])
      go_wp2
      go_ret
      exact ⟨w.heap.size + 1, rfl, HF.out, HR.out.2.2, by omega⟩
end Go.Proofs.Ytmjeoknndnbglaa.TB
