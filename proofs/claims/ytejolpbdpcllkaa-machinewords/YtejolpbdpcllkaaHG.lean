/-
  The answer hangs on the words that the loads tell: the walk of the statement MachineWords.
-/
import Derived.Test.YtejolpbdpcllkaaHF
namespace Go.Proofs.Ytejolpbdpcllkaa.M
/-- the words that the first k instructions load -/
def usd (l : List I) (k : Nat) (j : Nat) : Bool := (l.take k).any fun x => x.1 == 32 && (x.2.2.2 / 4).toNat == j
theorem usd_zero (l : List I) (j : Nat) : usd l 0 j = false := by simp [usd]
theorem usd_succ {l : List I} {k : Nat} (h : k < l.length) (j : Nat) : usd l (k + 1) j = (usd l k j || (l[k].1 == 32 && (l[k].2.2.2 / 4).toNat == j)) := by
  unfold usd
  rw [List.take_succ_eq_append_getElem h, List.any_append]
  simp
theorem kind1 : ∀ c ∈ codes, kind c = 1 → c = 32 := by decide
theorem usd_load {l : List I} {x : I} (hx : x ∈ l) (hk : kind x.1 = 1) : usd l l.length (x.2.2.2 / 4).toNat = true := by
  unfold usd
  rw [List.take_length, List.any_eq_true]
  exact ⟨x, hx, by rw [kind1 x.1 (in_codes (by omega)) hk]; simp⟩
/-- the second record, with the words of the first that are loaded -/
def mix (f : Nat → Bool) (r o : List Int) (k : Nat) : List Int := (List.range 16).map fun j => if j < k ∧ f j = true then R.at_ r j else R.at_ o j
theorem mix_len (f : Nat → Bool) (r o : List Int) (k : Nat) : (mix f r o k).length = 16 := by simp [mix]
theorem mix_at (f : Nat → Bool) (r o : List Int) (k j : Nat) (hj : j < 16) : R.at_ (mix f r o k) j = if j < k ∧ f j = true then R.at_ r j else R.at_ o j := by
  unfold mix
  rw [show R.at_ ((List.range 16).map fun j => if j < k ∧ f j = true then R.at_ r j else R.at_ o j) j = ((List.range 16).map fun j => if j < k ∧ f j = true then R.at_ r j else R.at_ o j).getD j 0 from rfl, List.getD_eq_getElem?_getD, List.getElem?_map, List.getElem?_range hj]
  rfl
theorem ext16 {a b : List Int} (ha : a.length = 16) (hb : b.length = 16) (h : ∀ j, j < 16 → R.at_ a j = R.at_ b j) : a = b := by
  apply List.ext_getElem (by omega)
  intro j h1 h2
  have := h j (by omega)
  unfold R.at_ at this
  rw [List.getD_eq_getElem?_getD, List.getD_eq_getElem?_getD, List.getElem?_eq_getElem h1, List.getElem?_eq_getElem h2] at this
  exact this
theorem mix_zero (f : Nat → Bool) (r : List Int) {o : List Int} (ho : o.length = 16) : mix f r o 0 = o := ext16 (mix_len _ _ _ _) ho fun j hj => by rw [mix_at _ _ _ _ _ hj, if_neg (by omega)]
theorem mix_not (f : Nat → Bool) (r o : List Int) (k : Nat) (h : f k = false) : mix f r o (k + 1) = mix f r o k := ext16 (mix_len _ _ _ _) (mix_len _ _ _ _) fun j hj => by
  rw [mix_at _ _ _ _ _ hj, mix_at _ _ _ _ _ hj]
  by_cases e : j = k
  · subst e; rw [if_neg (by rw [h]; simp), if_neg (by omega)]
  · by_cases hl : j < k ∧ f j = true
    · rw [if_pos hl, if_pos ⟨by omega, hl.2⟩]
    · rw [if_neg hl, if_neg (fun h => hl ⟨by omega, h.2⟩)]
theorem mix_set (f : Nat → Bool) (r o : List Int) (k : Nat) (hk : k < 16) (h : f k = true) : (mix f r o k).set k (R.at_ r k) = mix f r o (k + 1) := ext16 (by rw [List.length_set]; exact mix_len _ _ _ _) (mix_len _ _ _ _) fun j hj => by
  rw [mix_at _ _ _ _ _ hj]
  by_cases e : j = k
  · subst e
    rw [if_pos ⟨by omega, h⟩]
    show ((mix f r o j).set j (R.at_ r j)).getD j 0 = _
    rw [List.getD_eq_getElem?_getD, List.getElem?_set_self (by rw [mix_len]; exact hk)]
    rfl
  · show ((mix f r o k).set k (R.at_ r k)).getD j 0 = _
    rw [List.getD_eq_getElem?_getD, List.getElem?_set_ne (fun h => e h.symm), ← List.getD_eq_getElem?_getD]
    show R.at_ (mix f r o k) j = _
    rw [mix_at _ _ _ _ _ hj]
    by_cases hl : j < k ∧ f j = true
    · rw [if_pos hl, if_pos ⟨by omega, hl.2⟩]
    · rw [if_neg hl, if_neg (fun h => hl ⟨by omega, h.2⟩)]
theorem mix_ok {f : Nat → Bool} {r o : List Int} {k : Nat} (hr : R.okR r) (ho : R.okR o) : R.okR (mix f r o k) := ⟨mix_len _ _ _ _, fun i => by
  by_cases hi : i < 16
  · have := mix_at f r o k i hi
    unfold R.at_ at this
    rw [this]
    split
    · exact hr.2 i
    · exact ho.2 i
  · rw [List.getD_eq_getElem?_getD, List.getElem?_eq_none (by rw [mix_len]; omega)]; decide⟩
theorem words_same {l : List I} (hr : right l) (ok : ∀ x ∈ l, okI x) (r o : List Int) : run l r = run l (mix (usd l l.length) r o 16) := by
  unfold run
  refine go_words (fun x hx hk => ?_) _ _
  obtain ⟨p, hp, rfl⟩ := List.getElem_of_mem hx
  have hu := usd_load hx hk
  have hw := right_loc hr hp
  have hb := (ok _ hx).2.2.2
  generalize l[p] = x at *
  obtain ⟨c, t, f, k⟩ := x
  simp only at *
  rw [loc1 hk] at hw
  have h64 : k < 64 := by
    unfold ldE at hw
    split at hw
    · cases hw
    · omega
  rw [mix_at _ _ _ _ _ (by omega), if_pos ⟨by omega, hu⟩]
end Go.Proofs.Ytejolpbdpcllkaa.M
namespace Go.Proofs.Ytejolpbdpcllkaa.B
open Go.ChangeShapes Go.WideShapes Go.ChangeAt Go.RowKit
open Go.Sort hiding Below
set_option linter.unusedVariables false
def zb : Array Value := #[.bool false, .bool false, .bool false, .bool false, .bool false, .bool false, .bool false, .bool false, .bool false, .bool false, .bool false, .bool false, .bool false, .bool false, .bool false, .bool false]
theorem zb_lit : (#[.bool false, .bool false, .bool false, .bool false, .bool false, .bool false, .bool false, .bool false, .bool false, .bool false, .bool false, .bool false, .bool false, .bool false, .bool false, .bool false] : Array Value) = zb := rfl
theorem sizeB : (Try.prog.info? 48).map (·.size) = some 16 := by kernel_rfl
theorem new_bools (w : World) : ∃ W2, (storeCells ⟨w.heap.size, 0, none⟩ zb.toList 0).run Try.prog (w.alloc (.cells zb 48)) = .ok () W2 ∧ Row W2 w.heap.size 16 (fun _ => .bool false) ∧ Below w.heap.size w W2 := by
  have h : (w.alloc (.cells zb 48)).heap[w.heap.size]? = some (.cells zb 48 (0, 0)) := heap_alloc_last w _
  have hh : ((w.alloc (.cells zb 48)).setRow w.heap.size zb).heap[w.heap.size]? = some (.cells zb 48 (0, 0)) := setRow_heap _ _ _ _ _ _ h
  refine ⟨(w.alloc (.cells zb 48)).setRow w.heap.size zb, ?_, ⟨by simp, fun j hj => ?_, fun j hj => ?_⟩, below_setRow (al w _) (Nat.le_refl _) _⟩
  · have := run_storeVar_row (P := Try.prog) (w.alloc (.cells zb 48)) w.heap.size 48 48 zb zb h (by rw [sizeB]; rfl) rfl (by kernel_rfl)
    cases hq : Try.prog.info? 48 with
    | none => have := sizeB; simp [hq] at this
    | some i =>
      have hs : i.size = 16 := by have := sizeB; simpa [hq] using this
      have hs2 : zb.size = 16 := rfl
      simpa [storeVar, sizeOf, typeInfo, hq, Value.cells, hs, hs2] using this
  · rw [cell_of_row _ _ _ zb _ (0, 0) hh]
    have : j = 0 ∨ j = 1 ∨ j = 2 ∨ j = 3 ∨ j = 4 ∨ j = 5 ∨ j = 6 ∨ j = 7 ∨ j = 8 ∨ j = 9 ∨ j = 10 ∨ j = 11 ∨ j = 12 ∨ j = 13 ∨ j = 14 ∨ j = 15 := by omega
    rcases this with rfl | rfl | rfl | rfl | rfl | rfl | rfl | rfl | rfl | rfl | rfl | rfl | rfl | rfl | rfl | rfl <;> rfl
  · unfold World.frozen?
    simp only
    rw [hh]
    simp

set_option maxHeartbeats 3200000 in
set_option maxRecDepth 1000000 in
theorem words_good (b o n cap : Nat) (l : List M.I) (r ot : List Int) (hln : l.length = n) (hn : n ≤ 300) (ok : ∀ i ∈ l, M.okI i) (hk : R.okR r) (hko : R.okR ot) (w : World) (hl : Ly w b o l) (hr : M.right l) :
    Calls Try.prog 5 #[.slice (some ⟨b, o, none⟩) n cap, .agg (RB.enc r), .agg (RB.enc ot)] w fun e w' => e = .returned (.bool true) ∧ Below w.heap.size w w' := by
  have hd : decide (300 < (n : Int)) = false := decide_eq_false (by omega)
  have hX := RB.lcf_eq
  have hzb := zb_lit
  have hszb : zb.size = 16 := rfl
  obtain ⟨W, hW⟩ : ∃ W, (w.alloc (.cells (RB.enc r) 25)).alloc (.cells (RB.enc ot) 25) = W := ⟨_, rfl⟩
  have HB : Hid (Below w.heap.size w W) := by rw [← hW]; exact hid (((Below.refl _ w).alloc (Nat.le_refl _) _).alloc (by simp) _)
  have hR1 : RB.Rec W w.heap.size r := by rw [← hW]; exact (RB.Rec.new w r hk.1).alloc _
  have hR2 : RB.Rec W (w.heap.size + 1) ot := by
    rw [← hW]
    have := RB.Rec.new (w.alloc (.cells (RB.enc r) 25)) ot hko.1
    simpa using this
  have HL := hid (hl.below HB.out)
  have HC1 := hid (fun W (h : Ly W b o l) => mrun_any b o n cap l r hln (by omega) ok hk W h hr)
  have HC2 := hid (fun W (h : Ly W b o l) => mrun_any b o n cap l (M.mix (M.usd l l.length) r ot 16) hln (by omega) ok (M.mix_ok hk hko) W h hr)
  rw [← M.words_same hr ok r ot] at HC2
  have HC4 := hid (fun W (h : Lies W (some ⟨b, o, none⟩) l) => rright_any (some ⟨b, o, none⟩) n cap l hln (by omega) ok W h true (M.right_of.2 hr))
  have hbl : b < w.heap.size := hl.1
  have HH := hid (And.intro hln (And.intro ok (And.intro hl (And.intro hr (And.intro hk hko)))))
  have hsz16 := RB.enc_size hk.1
  have hsz16o := RB.enc_size (M.mix_len (M.usd l l.length) r ot 16)
  clear ok hl hr hk hko hln
  go_enter Try.func5, Try.ntmps5
  go_wp2_with fail
  refine (awake_any _).mono ?_
  rintro e w1 ⟨rfl, hb⟩
  replace HB := stp HB hb
  replace HL := hid (HL.out.below hb)
  replace hR1 := hR1.below hb hR1.lt
  replace hR2 := hR2.below hb hR2.lt
  clear hb hW
  go_wp2_with fail
  refine (HC4.out _ HL.out.lies).mono ?_
  rintro e w2 ⟨rfl, hb⟩
  obtain ⟨W3, hst3, hU3, hb3⟩ := new_bools w2
  have hu2 : w.heap.size + 1 < w2.heap.size := (hR2.below hb hR2.lt).lt
  have HI := hid (show Row W3 w2.heap.size 16 (fun j => .bool (M.usd l 0 j)) ∧ RB.Rec W3 w.heap.size r ∧ RB.Rec W3 (w.heap.size + 1) ot ∧ Below w.heap.size w W3 from
    ⟨hU3.congr fun j _ => by rw [M.usd_zero], (hR1.below hb hR1.lt).below hb3 (hR1.below hb hR1.lt).lt, (hR2.below hb hR2.lt).below hb3 (hR2.below hb hR2.lt).lt, (stp (stp HB hb) hb3).out⟩)
  clear hb hb3 hR1 hR2 HB HL HC4 hU3
  go_wp2
  clear hst3
  go_loopw [31] (fun kv wr => ∃ k : Nat, kv = .int .i64 k ∧ k ≤ n ∧ Hid (Row wr w2.heap.size 16 (fun j => .bool (M.usd l k j)) ∧ RB.Rec wr w.heap.size r ∧ RB.Rec wr (w.heap.size + 1) ot ∧ Below w.heap.size w wr)) (fun kv _ => n - (intOf kv).toNat)
  case atStart => exact ⟨0, rfl, Nat.zero_le _, HI.out⟩
  case round =>
    clear HI
    obtain ⟨k, rfl, hkn, HR⟩ := hrel
    by_cases hlt : k < n
    · have i1 : (k : Int) < (n : Int) := by omega
      have hkl : k < l.length := by rw [HH.out.1]; exact hlt
      obtain ⟨x, hx⟩ : ∃ x, l[k] = x := ⟨_, rfl⟩
      have hla : LiesAt wr b o k x := by rw [← hx]; exact (HH.out.2.2.1.far HR.out.2.2.2 hbl).2 k hkl
      have HU := hid (show ∀ j, M.usd l (k + 1) j = (M.usd l k j || (x.1 == 32 && (x.2.2.2 / 4).toNat == j)) by intro j; rw [M.usd_succ hkl, hx])
      have HK := hid (show x.1 = 32 → 0 ≤ x.2.2.2 ∧ x.2.2.2 < 64 by
        intro h
        have h1 := M.right_loc HH.out.2.2.2.1 hkl
        have h2 := HH.out.2.1 _ (List.getElem_mem hkl)
        rw [hx] at h1 h2
        obtain ⟨c, t, f, d⟩ := x
        simp only at h ⊢
        subst h
        refine ⟨h2.2.2.2.1, ?_⟩
        rw [M.loc1 (by decide)] at h1
        unfold M.ldE at h1
        split at h1
        · cases h1
        · omega)
      have hd0 := (HH.out.2.1 _ (List.getElem_mem hkl)).2.2.2.1
      rw [hx] at hd0
      clear hx hkl
      obtain ⟨c, t, f, d⟩ := x
      simp only at hd0
      obtain ⟨d, rfl⟩ : ∃ e : Nat, d = e := ⟨d.toNat, by omega⟩
      clear hd0
      obtain ⟨q0, q1, q2, q3⟩ := hla
      simp only at q0 q1 q2 q3 HU HK
      have hR' := HR.out.1.below (al wr (.cells #[.int .u16 c, .int .u8 t, .int .u8 f, .int .u32 (d : Int)] 51))
      have h1' := HR.out.2.1.alloc (.cells #[.int .u16 c, .int .u8 t, .int .u8 f, .int .u32 (d : Int)] 51)
      have h2' := HR.out.2.2.1.alloc (.cells #[.int .u16 c, .int .u8 t, .int .u8 f, .int .u32 (d : Int)] 51)
      have hB' := (stp (hid HR.out.2.2.2) (al wr (.cells #[.int .u16 c, .int .u8 t, .int .u8 f, .int .u32 (d : Int)] 51))).out
      by_cases hc : c = 32
      · subst hc
        have hd := HK.out rfl
        obtain ⟨e, he⟩ : ∃ e : Nat, d / 4 = e := ⟨_, rfl⟩
        have he16 : e < 16 := by omega
        have e4 : (d : Int) / 4 = (e : Int) := by omega
        have e5 : (e : Int) < 16 := by omega
        have c1 := hR'.cell e he16
        have c2 := hR'.froz e he16
        have HF := hid (show Row ((wr.alloc (.cells #[.int .u16 32, .int .u8 t, .int .u8 f, .int .u32 (d : Int)] 51)).setCell ⟨w2.heap.size, e, none⟩ (.bool true)) w2.heap.size 16 (fun j => .bool (M.usd l (k + 1) j)) from
          (hR'.set e he16 (.bool true)).congr fun j hj => by
            rw [HU.out j]
            by_cases ej : j = e
            · subst ej
              rw [if_pos rfl, e4]
              simp
            · rw [if_neg ej, e4]
              have : (((e : Int).toNat == j) : Bool) = false := by simp; omega
              rw [this]; simp)
        have HF2 := hid (show RB.Rec ((wr.alloc (.cells #[.int .u16 32, .int .u8 t, .int .u8 f, .int .u32 (d : Int)] 51)).setCell ⟨w2.heap.size, e, none⟩ (.bool true)) w.heap.size r ∧ RB.Rec ((wr.alloc (.cells #[.int .u16 32, .int .u8 t, .int .u8 f, .int .u32 (d : Int)] 51)).setCell ⟨w2.heap.size, e, none⟩ (.bool true)) (w.heap.size + 1) ot ∧ Below w.heap.size w ((wr.alloc (.cells #[.int .u16 32, .int .u8 t, .int .u8 f, .int .u32 (d : Int)] 51)).setCell ⟨w2.heap.size, e, none⟩ (.bool true)) from
          ⟨⟨by rw [Below.heap_setCell _ _ _ _ (show w.heap.size ≠ w2.heap.size by omega)]; exact h1'.1, h1'.2⟩, ⟨by rw [Below.heap_setCell _ _ _ _ (show w.heap.size + 1 ≠ w2.heap.size by omega)]; exact h2'.1, h2'.2⟩, hB'.setCell (by simp; omega) _⟩)
        clear HU HK hR' h1' h2' hB' HR hd he
        go_wp2
        go_roundw
        case rel => exact ⟨k + 1, by go_num, by omega, HF.out, HF2.out⟩
        case measure => simp [intOf]; omega
      · have hcb : (c == 32) = false := by simpa using hc
        have HF := hid (show Row (wr.alloc (.cells #[.int .u16 c, .int .u8 t, .int .u8 f, .int .u32 (d : Int)] 51)) w2.heap.size 16 (fun j => .bool (M.usd l (k + 1) j)) ∧ RB.Rec (wr.alloc (.cells #[.int .u16 c, .int .u8 t, .int .u8 f, .int .u32 (d : Int)] 51)) w.heap.size r ∧ RB.Rec (wr.alloc (.cells #[.int .u16 c, .int .u8 t, .int .u8 f, .int .u32 (d : Int)] 51)) (w.heap.size + 1) ot ∧ Below w.heap.size w (wr.alloc (.cells #[.int .u16 c, .int .u8 t, .int .u8 f, .int .u32 (d : Int)] 51)) from
          ⟨hR'.congr fun j hj => by rw [HU.out j, hcb]; simp, h1', h2', hB'⟩)
        clear HU HK hR' h1' h2' hB' HR hc
        go_wp2
        go_roundw
        case rel => exact ⟨k + 1, by go_num, by omega, HF.out⟩
        case measure => simp [intOf]; omega
    · obtain rfl : k = n := by omega
      have HI := hid (show Row wr w2.heap.size 16 (fun j => .bool (M.usd l l.length j)) ∧ RB.Rec wr w.heap.size r ∧ RB.Rec wr (w.heap.size + 1) (M.mix (M.usd l l.length) r ot 0) ∧ Below w.heap.size w wr from
        ⟨by rw [HH.out.1]; exact HR.out.1, HR.out.2.1, by rw [M.mix_zero _ _ HH.out.2.2.2.2.2.1]; exact HR.out.2.2.1, HR.out.2.2.2⟩)
      obtain ⟨F, hF⟩ : ∃ F, M.usd l l.length = F := ⟨_, rfl⟩
      rw [hF] at HI HC2 hsz16o
      clear HR hF
      go_wp2
      go_loopw [43] (fun kv wq => ∃ j : Nat, kv = .int .i64 j ∧ j ≤ 16 ∧ Hid (Row wq w2.heap.size 16 (fun j => .bool (F j)) ∧ RB.Rec wq w.heap.size r ∧ RB.Rec wq (w.heap.size + 1) (M.mix F r ot j) ∧ Below w.heap.size w wq)) (fun kv _ => 16 - (intOf kv).toNat)
      case atStart => exact ⟨0, rfl, by omega, HI.out⟩
      case round =>
        clear HI
        obtain ⟨j, rfl, hj, HR⟩ := hrel
        by_cases hlt : j < 16
        · have i2 : (j : Int) < 16 := by omega
          have c1 := HR.out.1.cell j hlt
          cases hf : F j with
          | true =>
            simp only [hf] at c1
            have c2 := HR.out.2.1.cell j hlt
            have c3 := HR.out.2.2.1.frozen j
            have c4 := HR.out.2.2.1.cell j hlt
            obtain ⟨W4, hW4, hR4, hoth4, hsize4, hB4⟩ := HR.out.2.2.1.set j (R.at_ r j)
            have HF := hid (show Row W4 w2.heap.size 16 (fun j => .bool (F j)) ∧ RB.Rec W4 w.heap.size r ∧ RB.Rec W4 (w.heap.size + 1) (M.mix F r ot (j + 1)) ∧ Below w.heap.size w W4 from
              ⟨by rw [← hW4]; exact HR.out.1.other _ _ _ (by omega), hoth4 _ _ (by omega) HR.out.2.1, by rw [← M.mix_set F r ot j hlt hf]; exact hR4, hB4 _ _ (by omega) HR.out.2.2.2⟩)
            clear HR hR4 hoth4 hsize4 hB4 hf
            go_wp2
            go_roundw
            case rel => exact ⟨j + 1, by go_num, by omega, HF.out⟩
            case measure => simp [intOf]; omega
          | false =>
            simp only [hf] at c1
            have HF := hid (show RB.Rec wr (w.heap.size + 1) (M.mix F r ot (j + 1)) by rw [M.mix_not F r ot j hf]; exact HR.out.2.2.1)
            go_wp2
            go_roundw
            case rel => exact ⟨j + 1, by go_num, by omega, HR.out.1, HR.out.2.1, HF.out, HR.out.2.2.2⟩
            case measure => simp [intOf]; omega
        · obtain rfl : j = 16 := by omega
          have hR1 := HR.out.2.1
          have hR2 := HR.out.2.2.1
          have HB := hid HR.out.2.2.2
          clear HR
          have hl1 := hR1.load
          have hl2 := hR2.load
          go_wp2_with fail
          refine (HC1.out _ (HH.out.2.2.1.far HB.out hbl)).mono ?_
          rintro e w5 ⟨rfl, hb⟩
          replace HB := stp HB hb
          replace hR2 := hR2.below hb hR2.lt
          replace hl2 := hR2.load
          clear hb hl1 hR1 HC1
          go_wp2_with fail
          refine (HC2.out _ (HH.out.2.2.1.far HB.out hbl)).mono ?_
          rintro e w6 ⟨rfl, hb⟩
          replace HB := stp HB hb
          clear hb HC2
          go_wp2
          go_ret
          exact ⟨rfl, HB.out⟩

set_option maxHeartbeats 3200000 in
set_option maxRecDepth 1000000 in
theorem words_long (a : Option Addr) (n cap : Nat) (r ot : List Int) (hn : 300 < n) (w : World) :
    Calls Try.prog 5 #[.slice a n cap, .agg (RB.enc r), .agg (RB.enc ot)] w fun e w' => e = .returned (.bool true) ∧ Below w.heap.size w w' := by
  have hd : decide (300 < (n : Int)) = true := decide_eq_true (by omega)
  have HB := hid (((Below.refl w.heap.size w).alloc (Nat.le_refl _) (.cells (RB.enc r) 25)).alloc (by simp) (.cells (RB.enc ot) 25))
  go_enter Try.func5, Try.ntmps5
  go_wp2_with fail
  refine (awake_any _).mono ?_
  rintro e w1 ⟨rfl, hb⟩
  replace HB := stp HB hb
  clear hb
  go_wp2_with fail
  refine (awake_any _).mono ?_
  rintro e w2 ⟨rfl, hb⟩
  replace HB := stp HB hb
  clear hb
  go_wp2
  go_ret
  exact ⟨rfl, HB.out⟩

set_option maxHeartbeats 3200000 in
set_option maxRecDepth 1000000 in
theorem words_bad (a : Option Addr) (n cap : Nat) (l : List M.I) (r ot : List Int) (hln : l.length = n) (hn : n ≤ 300) (ok : ∀ i ∈ l, M.okI i) (w : World) (hl : Lies w a l) (hb : M.rightB l = false) :
    Calls Try.prog 5 #[.slice a n cap, .agg (RB.enc r), .agg (RB.enc ot)] w fun e w' => e = .returned (.bool true) ∧ Below w.heap.size w w' := by
  have hd : decide (300 < (n : Int)) = false := decide_eq_false (by omega)
  have HB := hid (((Below.refl w.heap.size w).alloc (Nat.le_refl _) (.cells (RB.enc r) 25)).alloc (by simp) (.cells (RB.enc ot) 25))
  have HL := hid (hl.below HB.out)
  have HC4 := hid (fun W (h : Lies W a l) => rright_any a n cap l hln (by omega) ok W h false hb)
  clear ok hl hb hln
  go_enter Try.func5, Try.ntmps5
  go_wp2_with fail
  refine (awake_any _).mono ?_
  rintro e w1 ⟨rfl, hb⟩
  replace HB := stp HB hb
  replace HL := hid (HL.out.below hb)
  clear hb
  go_wp2_with fail
  refine (HC4.out _ HL.out).mono ?_
  rintro e w2 ⟨rfl, hb⟩
  replace HB := stp HB hb
  clear hb HL
  go_wp2_with fail
  refine (awake_any _).mono ?_
  rintro e w3 ⟨rfl, hb⟩
  replace HB := stp HB hb
  clear hb
  go_wp2
  go_ret
  exact ⟨rfl, HB.out⟩
theorem words_law (a : Option Addr) (cap : Nat) (l : List M.I) (ok : ∀ i ∈ l, M.okI i) (r : List Int) (hr : R.okR r) (ot : List Int) (ho : R.okR ot) (w : World) (hl : Lies w a l) :
    Calls Try.prog 5 #[.slice a l.length cap, .agg (RB.enc r), .agg (RB.enc ot)] w fun e w' => e = .returned (.bool true) ∧ Below w.heap.size w w' := by
  by_cases hn : l.length ≤ 300
  · cases hb : M.rightB l with
    | false => exact words_bad a l.length cap l r ot rfl hn ok w hl hb
    | true =>
      have hrt := M.right_of.1 hb
      have h0 := ((M.right_iff l).1 hrt).1.1
      obtain ⟨b, o, rfl, hly⟩ := hl.ly h0
      exact words_good b o l.length cap l r ot rfl hn ok hr ho w hly hrt
  · exact words_long a l.length cap r ot (by omega) w
end Go.Proofs.Ytejolpbdpcllkaa.B
