/-
  Plain mathematics of an instruction's eight bytes: an instruction as four numbers, its bytes, the text of a list of bytes.
-/
import Derived.Test.YtfmlefadifpocaaRows
import Derived.WalkKit
import Derived.ProofKit
import Derived.OpenShut
import Derived.WalkLawsBesides
import Derived.Laws.Shifts
import Derived.Laws.BitsAllLaws
import Derived.Laws.BytesString
import Derived.Laws.IdiomStrings
import Derived.Deep.QuietTactic
import Derived.BigQuiet
import Derived.Deep.RegionHeldLaw
import Derived.Deep.AppendLies
import Derived.Outline
import Derived.Laws.StructEq
import Derived.Deep.Slices
import Derived.Carry
import Derived.Deep.WholeRow
import Derived.StillTailTactics
import Derived.Maps.Own
import Derived.Deep.RegionHeld
import Derived.RangeFuncRecord
import Derived.Sort.EncStr
import Derived.Sort.KeysCollected
namespace Go.Proofs.Ytfmlefadifpocaa.M

abbrev I := Int × Int × Int × Int
def okI (i : I) : Prop := (0 ≤ i.1 ∧ i.1 < 65536) ∧ (0 ≤ i.2.1 ∧ i.2.1 < 256) ∧ (0 ≤ i.2.2.1 ∧ i.2.2.1 < 256) ∧ (0 ≤ i.2.2.2 ∧ i.2.2.2 < 4294967296)
def by8 (i : I) : List Int := [i.1 % 256, i.1 / 256, i.2.1, i.2.2.1, i.2.2.2 % 256, i.2.2.2 / 256 % 256, i.2.2.2 / 65536 % 256, i.2.2.2 / 16777216]
def pr (l : List I) : List Int := l.flatMap by8
def str (ns : List Int) : ByteArray := ns.foldl (fun r n => r.push (UInt8.ofNat n.toNat)) ByteArray.empty

theorem by8_len (i : I) : (by8 i).length = 8 := rfl
theorem pr_nil : pr [] = [] := rfl
theorem pr_snoc (l : List I) (i : I) : pr (l ++ [i]) = pr l ++ by8 i := by simp [pr]
theorem pr_append (l m : List I) : pr (l ++ m) = pr l ++ pr m := by simp [pr]
theorem pr_len (l : List I) : (pr l).length = 8 * l.length := by
  induction l with
  | nil => rfl
  | cons a l ih => rw [show pr (a :: l) = by8 a ++ pr l from rfl, List.length_append, ih, by8_len, List.length_cons]; omega

theorem foldl_push (ns : List Int) (s : ByteArray) : (ns.foldl (fun r n => r.push (UInt8.ofNat n.toNat)) s).data.toList = s.data.toList ++ ns.map fun n => UInt8.ofNat n.toNat := by
  induction ns generalizing s with
  | nil => simp
  | cons n ns ih => rw [List.foldl_cons, ih]; simp [ByteArray.push]
theorem str_list (ns : List Int) : (str ns).data.toList = ns.map fun n => UInt8.ofNat n.toNat := by
  unfold str; rw [foldl_push]; simp
theorem bytes_ext {a b : ByteArray} (h : a.data.toList = b.data.toList) : a = b := by
  cases a; cases b; simp only [ByteArray.mk.injEq]; exact Array.toList_inj.1 h
theorem str_size (ns : List Int) : (str ns).size = ns.length := by
  show (str ns).data.size = _
  rw [← Array.length_toList, str_list, List.length_map]
theorem str_append (a b : List Int) : str a ++ str b = str (a ++ b) := by
  apply bytes_ext
  simp [str_list]

/-- the byte at place i of a text -/
def at_ (s : ByteArray) (i : Nat) : Int := ((s.data.toList.getD i 0).toNat : Int)
theorem at_bd (s : ByteArray) (i : Nat) : 0 ≤ at_ s i ∧ at_ s i < 256 := by
  unfold at_
  have := (s.data.toList.getD i 0).toNat_lt
  omega
theorem at_get (s : ByteArray) (i : Nat) (h : i < s.size) : ((s[i]).toNat : Int) = at_ s i := by
  unfold at_
  rw [List.getD_eq_getElem?_getD, List.getElem?_eq_getElem (by simpa using h)]
  rfl

/-- the instruction whose eight bytes begin at place p -/
def rd (s : ByteArray) (p : Nat) : I :=
  (at_ s p + 256 * at_ s (p + 1), at_ s (p + 2), at_ s (p + 3), at_ s (p + 4) + 256 * at_ s (p + 5) + 65536 * at_ s (p + 6) + 16777216 * at_ s (p + 7))
def rdl (s : ByteArray) (n : Nat) : List I := (List.range n).map fun j => rd s (8 * j)
theorem rdl_succ (s : ByteArray) (n : Nat) : rdl s (n + 1) = rdl s n ++ [rd s (8 * n)] := by simp [rdl, List.range_succ]
theorem rdl_len (s : ByteArray) (n : Nat) : (rdl s n).length = n := by simp [rdl]
theorem rd_ok (s : ByteArray) (p : Nat) : okI (rd s p) := by
  have h0 := at_bd s p; have h1 := at_bd s (p + 1); have h2 := at_bd s (p + 2); have h3 := at_bd s (p + 3)
  have h4 := at_bd s (p + 4); have h5 := at_bd s (p + 5); have h6 := at_bd s (p + 6); have h7 := at_bd s (p + 7)
  unfold okI rd; simp only; omega
theorem by8_rd (s : ByteArray) (p : Nat) : by8 (rd s p) = [at_ s p, at_ s (p + 1), at_ s (p + 2), at_ s (p + 3), at_ s (p + 4), at_ s (p + 5), at_ s (p + 6), at_ s (p + 7)] := by
  have h0 := at_bd s p; have h1 := at_bd s (p + 1); have h2 := at_bd s (p + 2); have h3 := at_bd s (p + 3)
  have h4 := at_bd s (p + 4); have h5 := at_bd s (p + 5); have h6 := at_bd s (p + 6); have h7 := at_bd s (p + 7)
  unfold by8 rd
  simp only [List.cons.injEq, and_true, true_and]
  omega
theorem pr_rdl (s : ByteArray) (n : Nat) : pr (rdl s n) = (List.range (8 * n)).map (at_ s) := by
  induction n with
  | zero => rfl
  | succ n ih =>
    rw [rdl_succ, pr_snoc, ih, by8_rd]
    rw [show 8 * (n + 1) = 8 * n + 8 from by omega]
    simp [List.range_succ]
theorem ofNat_at (s : ByteArray) (i : Nat) : UInt8.ofNat (at_ s i).toNat = s.data.toList.getD i 0 := by
  unfold at_; simp
theorem str_pr_rdl (s : ByteArray) (n : Nat) (h : s.size = 8 * n) : str (pr (rdl s n)) = s := by
  apply bytes_ext
  rw [str_list, pr_rdl, List.map_map]
  apply List.ext_getElem
  · simp; exact h.symm
  · intro i h1 h2
    simp only [List.getElem_map, List.getElem_range, Function.comp]
    rw [ofNat_at, List.getD_eq_getElem?_getD, List.getElem?_eq_getElem h2]; rfl

theorem at_str (ns : List Int) (i : Nat) (hb : ∀ x ∈ ns, 0 ≤ x ∧ x < 256) : at_ (str ns) i = ns.getD i 0 := by
  unfold at_
  rw [str_list, List.getD_eq_getElem?_getD, List.getD_eq_getElem?_getD, List.getElem?_map]
  rcases h : ns[i]? with _ | x
  · rfl
  · have := hb x (List.mem_of_getElem? h)
    simp; omega
theorem by8_bd {i : I} (h : okI i) : ∀ x ∈ by8 i, 0 ≤ x ∧ x < 256 := by
  obtain ⟨c, t, f, k⟩ := i
  unfold okI at h; simp only at h
  unfold by8; simp only
  intro x hx
  simp only [List.mem_cons, List.not_mem_nil, or_false] at hx
  omega
theorem pr_bd {l : List I} (h : ∀ i ∈ l, okI i) : ∀ x ∈ pr l, 0 ≤ x ∧ x < 256 := by
  intro x hx
  obtain ⟨i, hi, hx⟩ := List.mem_flatMap.1 hx
  exact by8_bd (h i hi) x hx
theorem rd_by8 {ns : List Int} {p : Nat} {i : I} (h : okI i) (hb : ∀ x ∈ ns, 0 ≤ x ∧ x < 256) (e : ∀ j, j < 8 → ns.getD (p + j) 0 = (by8 i).getD j 0) : rd (str ns) p = i := by
  obtain ⟨c, t, f, k⟩ := i
  unfold okI at h; simp only at h
  unfold rd
  simp only [at_str ns _ hb]
  have e0 := e 0 (by omega); have e1 := e 1 (by omega); have e2 := e 2 (by omega); have e3 := e 3 (by omega)
  have e4 := e 4 (by omega); have e5 := e 5 (by omega); have e6 := e 6 (by omega); have e7 := e 7 (by omega)
  have k1 : k / 65536 = k / 256 / 256 := by omega
  have k2 : k / 16777216 = k / 256 / 256 / 256 := by omega
  simp [by8] at e0 e1 e2 e3 e4 e5 e6 e7
  simp only [List.getD_eq_getElem?_getD, e0, e1, e2, e3, e4, e5, e6, e7, Prod.mk.injEq, k1, k2]
  refine ⟨by omega, trivial, trivial, ?_⟩
  have d0 := Int.mul_ediv_add_emod k 256
  have d1 := Int.mul_ediv_add_emod (k / 256) 256
  have d2 := Int.mul_ediv_add_emod (k / 256 / 256) 256
  clear e0 e1 e2 e3 e4 e5 e6 e7 k1 k2
  generalize k / 256 / 256 / 256 = q at *
  generalize k / 256 / 256 % 256 = q1 at *
  generalize k / 256 / 256 = q2 at *
  generalize k / 256 % 256 = q3 at *
  generalize k / 256 = q4 at *
  omega
theorem pr_get (l : List I) (j : Nat) (hj : j < l.length) (i : Nat) (hi : i < 8) : (pr l).getD (8 * j + i) 0 = (by8 (l.getD j (0, 0, 0, 0))).getD i 0 := by
  induction l generalizing j with
  | nil => simp at hj
  | cons a l ih =>
    rw [show pr (a :: l) = by8 a ++ pr l from rfl]
    cases j with
    | zero => simp [List.getD_eq_getElem?_getD, List.getElem?_append, by8_len, hi]
    | succ j =>
      have := ih j (by simpa using hj)
      rw [List.getD_eq_getElem?_getD] at this ⊢
      rw [List.getElem?_append_right (by rw [by8_len]; omega), by8_len, show 8 * (j + 1) + i - 8 = 8 * j + i from by omega, this]
      simp
/-- the first n instructions of the bytes of a program, and whatever else, are its own -/
theorem rdl_pr (l : List I) (n : Nat) (m : Nat) (hl : ∀ i ∈ l, okI i) (hn : n ≤ l.length) (hm : 8 * n ≤ m) : rdl (str ((pr l).take m)) n = l.take n := by
  apply List.ext_getElem
  · simp [rdl_len]; omega
  · intro j h1 h2
    rw [rdl_len] at h1
    simp only [rdl, List.getElem_map, List.getElem_range, List.getElem_take]
    have hjl : j < l.length := by omega
    refine rd_by8 (hl _ (List.getElem_mem hjl)) (fun x hx => pr_bd hl x (List.mem_of_mem_take hx)) fun i hi => ?_
    have := pr_get l j hjl i hi
    rw [List.getD_eq_getElem?_getD, List.getElem?_take_of_lt (by omega), ← List.getD_eq_getElem?_getD, this]
    have e9 : l.getD j (0, 0, 0, 0) = l[j] := by rw [List.getD_eq_getElem?_getD, List.getElem?_eq_getElem hjl]; rfl
    rw [e9]
theorem rdl_pr_all (l : List I) (hl : ∀ i ∈ l, okI i) : rdl (str (pr l)) l.length = l := by
  have := rdl_pr l l.length (pr l).length hl (Nat.le_refl _) (by rw [pr_len]; exact Nat.le_refl _)
  rwa [List.take_length, List.take_length] at this
theorem str_pr_inj {l m : List I} (hl : ∀ i ∈ l, okI i) (hm : ∀ i ∈ m, okI i) : (str (pr l) = str (pr m)) ↔ l = m := by
  constructor
  · intro h
    have e := congrArg ByteArray.size h
    rw [str_size, str_size, pr_len, pr_len] at e
    have := rdl_pr_all l hl
    rw [h, show l.length = m.length from by omega, rdl_pr_all m hm] at this
    exact this.symm
  · intro h; rw [h]
theorem rdl_ok (s : ByteArray) (n : Nat) : ∀ i ∈ rdl s n, okI i := by
  intro i hi
  obtain ⟨j, _, rfl⟩ := List.mem_map.1 hi
  exact rd_ok s _
end Go.Proofs.Ytfmlefadifpocaa.M
namespace Go.Proofs.Ytfmlefadifpocaa.B
open Go.ChangeShapes Go.WideShapes Go.ChangeAt Go.RowKit
set_option linter.unusedVariables false

theorem info5 : (Try.prog.info? 5).map (fun i => (i.zero, i.size, i.bytes)) = some (some (.int .u8 0), 1, 1) := by kernel_rfl
theorem info39 : (Try.prog.info? 38).map (fun i => (i.zero, i.size, i.bytes)) = some (some (.agg #[.int .u16 0, .int .u8 0, .int .u8 0, .int .u32 0]), 4, 8) := by kernel_rfl
def u8s (l : List Int) : List Value := l.map (Value.int .u8)
def iv (c t f k : Int) : Value := .agg #[.int .u16 c, .int .u8 t, .int .u8 f, .int .u32 k]

theorem below_own2 {w w1 : World} {base : Nat} {e : TypeId} {size : Nat} {v : Value} {n : Nat} {xs : List Value} (hown : w.ownsRow base e size v n xs) (hb : base ≤ w.heap.size) {o1 o2 : Obj} (hg : ((w.alloc o1).alloc o2).grownBy w1 v.ownBlock) : Below base w w1 :=
  (((Below.refl base w).alloc hb o1).alloc (by simp; omega) o2).grown hg (by simp; omega) (fun k hk => (hown.lt k hk).1)
theorem below_own1 {w w1 : World} {base : Nat} {e : TypeId} {size : Nat} {v : Value} {n : Nat} {xs : List Value} (hown : w.ownsRow base e size v n xs) (hb : base ≤ w.heap.size) {o1 : Obj} (hg : (w.alloc o1).grownBy w1 v.ownBlock) : Below base w w1 :=
  ((Below.refl base w).alloc hb o1).grown hg (by simp; omega) (fun k hk => (hown.lt k hk).1)
theorem news2 (w : World) (o : Obj) (cs : Array Value) {t : TypeId} {l : List Value} (h : cs.toList = l) :
    ∀ (j : Nat) (u : Value), l[j]? = some u → ((w.alloc o).alloc (Obj.cells cs t)).cell? ((⟨w.heap.size + 1, 0, none⟩ : Addr).add j) = some u := by
  subst h
  exact World.news_of_block (fr := (0, 0)) (t := t) (by have := heap_alloc_new (w.alloc o) (Obj.cells cs t); simpa using this)

theorem make4 (cap : Nat) (h : cap ≤ 65536) : ∃ cs : Array Value, cs.size = cap * 4 ∧ ∀ W : World, (Instr.makeSlice 22 (.int .i64 0) (.int .i64 (cap : Int))).run Try.prog W = .ok (.slice (some ⟨W.heap.size, 0, none⟩) 0 cap) (W.alloc (.cells cs 38)) := by
  obtain ⟨i0, hi, hz0, hz1, hz2⟩ := info_parts info39
  refine ⟨madeCells #[.int .u16 0, .int .u8 0, .int .u8 0, .int .u32 0] (cap * 4), size_madeCells _ _, fun W => ?_⟩
  have := run_make (P := Try.prog) W 22 38 i0 _ Try.underlying22 hi hz0 .i64 .i64 0 (cap : Int) (by omega) (by omega) (by rw [hz2]; omega) (by omega)
  rw [this, hz1]; rfl

theorem own_new8 (w : World) (o : Obj) (cs : Array Value) {cap : Nat} (hcs : cs.size = cap) (h : cap ≤ 65536) : ((w.alloc o).alloc (.cells cs 5)).drew.ownsRow (w.heap.size + 1) 5 1 (.slice (some ⟨w.heap.size + 1, 0, none⟩) 0 cap) 0 [] := by
  have := World.ownsRow_made (base := w.heap.size + 1) (e := 5) (size := 1) (w.alloc o) cs cap (by simp) (by unfold maxLen; omega) (by omega)
  have := this.drew
  simpa using this

end Go.Proofs.Ytfmlefadifpocaa.B
namespace Go.Proofs.Ytfmlefadifpocaa.B
open Go.ChangeShapes Go.WideShapes Go.ChangeAt Go.RowKit
set_option linter.unusedVariables false

theorem wrap_div (c d : Int) (h0 : 0 ≤ c) (h1 : c < 65536) (hd : 0 < d) : IntKind.u16.wrap (c.tdiv d) = c / d := by
  rw [Int.tdiv_eq_ediv_of_nonneg h0]
  have a := Int.ediv_nonneg h0 (Int.le_of_lt hd)
  have b := Int.ediv_le_self d h0
  rw [IntKind.wrap_u16]
  generalize c / d = x at *
  omega

theorem and255 : ∀ x : Nat, x < 256 → x &&& 7 = x % 8 ∧ x &&& 240 = x / 16 % 16 * 16 ∧ x &&& 8 = x / 8 % 2 * 8 := by decide +kernel
theorem and_low (n m : Nat) (hm : 255 &&& m = m) : n &&& m = (n % 256) &&& m := by
  rw [show n % 256 = n &&& 255 from (Nat.and_two_pow_sub_one_eq_mod n 8).symm, Nat.and_assoc, hm]
theorem and7 (c : Int) (h0 : 0 ≤ c) (h1 : c < 65536) : bits .and .u16 c 7 = c % 8 := by
  rw [u16_and c 7 h0 h1 (by omega) (by omega)]
  have := and_low c.toNat 7 rfl
  rw [show (7 : Int).toNat = 7 from rfl, this, (and255 (c.toNat % 256) (by omega)).1]
  omega
theorem and240 (c : Int) (h0 : 0 ≤ c) (h1 : c < 65536) : bits .and .u16 c 240 = c / 16 % 16 * 16 := by
  rw [u16_and c 240 h0 h1 (by omega) (by omega)]
  have := and_low c.toNat 240 rfl
  rw [show (240 : Int).toNat = 240 from rfl, this, (and255 (c.toNat % 256) (by omega)).2.1]
  omega
theorem and8 (c : Int) (h0 : 0 ≤ c) (h1 : c < 65536) : bits .and .u16 c 8 = c / 8 % 2 * 8 := by
  rw [u16_and c 8 h0 h1 (by omega) (by omega)]
  have := and_low c.toNat 8 rfl
  rw [show (8 : Int).toNat = 8 from rfl, this, (and255 (c.toNat % 256) (by omega)).2.2]
  omega
theorem ret_bool {a b : Bool} (h : a = b) : Ending.returned (.bool a) = .returned (.bool b) := by rw [h]
theorem fromx_eq (c : Int) : (c / 8 % 2 * 8 != 0) = decide (c / 8 % 2 = 1) := by
  rw [Bool.eq_iff_iff]; simp only [bne_iff_ne, ne_eq, decide_eq_true_eq]; omega
theorem and_byte (c : Int) (h0 : 0 ≤ c) (h1 : c < 65536) : bits .and .u16 c 255 = c % 256 := by
  rw [u16_and c 255 h0 h1 (by omega) (by omega), show (255 : Int).toNat = 2 ^ 8 - 1 from rfl, Nat.and_two_pow_sub_one_eq_mod]
  omega

set_option maxHeartbeats 1600000 in
theorem op_any (c t f k : Int) (ok : M.okI (c, t, f, k)) (w : World) :
    Calls Try.prog 64 #[.agg #[.int .u16 c, .int .u8 t, .int .u8 f, .int .u32 k]] w fun e w' => e = .returned (.int .i64 (c / 16 % 16 * 16)) ∧ Below w.heap.size w w' := by
  have hc : 0 ≤ c := ok.1.1
  have hc' : c < 65536 := ok.1.2
  have e1 := and240 c hc hc'
  go_enter Try.func64, Try.ntmps64
  go_wp2
  go_ret
  exact ⟨rfl, (Below.refl _ _).alloc (Nat.le_refl _) _⟩
set_option maxHeartbeats 1600000 in
theorem fromx_any (c t f k : Int) (ok : M.okI (c, t, f, k)) (w : World) :
    Calls Try.prog 63 #[.agg #[.int .u16 c, .int .u8 t, .int .u8 f, .int .u32 k]] w fun e w' => e = .returned (.bool (decide (c / 8 % 2 = 1))) ∧ Below w.heap.size w w' := by
  have hc : 0 ≤ c := ok.1.1
  have hc' : c < 65536 := ok.1.2
  have e1 := and8 c hc hc'
  go_enter Try.func63, Try.ntmps63
  go_wp2
  go_ret
  exact ⟨ret_bool (fromx_eq c), (Below.refl _ _).alloc (Nat.le_refl _) _⟩
end Go.Proofs.Ytfmlefadifpocaa.B
namespace Go.Proofs.Ytfmlefadifpocaa.B
open Go.ChangeShapes Go.WideShapes Go.ChangeAt Go.RowKit
set_option linter.unusedVariables false

/-- The instruction i lies at place j of the row that begins at b, o. -/
def LiesAt (w : World) (b o j : Nat) (i : M.I) : Prop :=
  w.cell? ⟨b, o + j * 4, none⟩ = some (.int .u16 i.1) ∧ w.cell? ⟨b, o + j * 4 + 1, none⟩ = some (.int .u8 i.2.1) ∧ w.cell? ⟨b, o + j * 4 + 2, none⟩ = some (.int .u8 i.2.2.1) ∧ w.cell? ⟨b, o + j * 4 + 3, none⟩ = some (.int .u32 i.2.2.2)
/-- The instructions of l lie at a, one behind the other. -/
def Lies (w : World) (a : Option Addr) (l : List M.I) : Prop :=
  l = [] ∨ ∃ b o, a = some ⟨b, o, none⟩ ∧ b < w.heap.size ∧ ∀ j (h : j < l.length), LiesAt w b o j l[j]

theorem Lies.mono {w w' : World} {a : Option Addr} {l : List M.I} {B : Nat} (h : Lies w a l) (hb : Below B w w') (hB : ∀ b o, a = some ⟨b, o, none⟩ → b < B) : Lies w' a l := by
  rcases h with h | ⟨b, o, e, hlt, h⟩
  · exact .inl h
  · refine .inr ⟨b, o, e, Nat.lt_of_lt_of_le hlt hb.size, fun j hj => ?_⟩
    have hbB := hB b o e
    obtain ⟨h0, h1, h2, h3⟩ := h j hj
    exact ⟨(hb.cell hbB).trans h0, (hb.cell hbB).trans h1, (hb.cell hbB).trans h2, (hb.cell hbB).trans h3⟩
theorem Lies.lt {w : World} {a : Option Addr} {l : List M.I} (h : Lies w a l) : l = [] ∨ ∃ b o, a = some ⟨b, o, none⟩ ∧ b < w.heap.size := by
  rcases h with h | ⟨b, o, e, hlt, _⟩
  · exact .inl h
  · exact .inr ⟨b, o, e, hlt⟩
theorem Lies.below {w w' : World} {a : Option Addr} {l : List M.I} (h : Lies w a l) (hb : Below w.heap.size w w') : Lies w' a l := by
  rcases h with h | ⟨b, o, e, hlt, h⟩
  · exact .inl h
  · exact Lies.mono (.inr ⟨b, o, e, hlt, h⟩) hb (fun b' o' e' => by rw [e] at e'; cases e'; exact hlt)
theorem Lies.drewN {w : World} {a : Option Addr} {l : List M.I} (h : Lies w a l) (n : Nat) : Lies (w.drewN n) a l := h

theorem dd (w : World) (a b : Nat) : (w.drewN a).drewN b = w.drewN (a + b) := by simp [World.drewN, Nat.add_assoc]
theorem take_next {l m : List M.I} {k : Nat} (h : k < l.length) (h' : k < m.length) (e : l.take k = m.take k) (ek : l[k] = m[k]) : l.take (k + 1) = m.take (k + 1) := by
  rw [List.take_succ_eq_append_getElem h, List.take_succ_eq_append_getElem h', e, ek]

theorem guard39 (op : BinOp) (x y : Operand) (xs ys : Array Value) (W : World) : (eqGuard op 38 x y (.agg xs) (.agg ys)).run Try.prog W = .ok () W :=
  run_eqGuard_agg W op 38 x y xs ys (by kernel_rfl)
theorem held39 : Try.prog.stoodInHeld 38 = false := by kernel_rfl
theorem fields39 : Try.prog.underlying 38 = some (.struct (Try.prog.fieldsOf 38)) := by kernel_rfl
theorem eq39 (c1 t1 f1 k1 c2 t2 f2 k2 : Int) (d : Nat) (W : World) :
    (Op.equalIn (d + 2) 38 (.agg #[.int .u16 c1, .int .u8 t1, .int .u8 f1, .int .u32 k1]) (.agg #[.int .u16 c2, .int .u8 t2, .int .u8 f2, .int .u32 k2])).run Try.prog W = .ok (decide ((c1, t1, f1, k1) = (c2, t2, f2, k2))) W := by
  rw [run_equalIn_struct W (d + 1) 38 _ _ fields39 held39]
  have hu := Try.underlying38
  rw [fields39] at hu
  simp only [Option.some.injEq, TypeDesc.struct.injEq] at hu
  rw [hu]
  have c36 : Try.prog.cellsOf 35 = 1 := by kernel_rfl
  have c5 : Try.prog.cellsOf 5 = 1 := by kernel_rfl
  have c37 : Try.prog.cellsOf 36 = 1 := by kernel_rfl
  simp [Op.eqFields, part, go_sem, Try.underlying35, Try.underlying5, Try.underlying36]
  repeat' split
  all_goals simp_all
theorem eql39 (c1 t1 f1 k1 c2 t2 f2 k2 : Int) (W : World) :
    (binOp .eql 38 (.agg #[.int .u16 c1, .int .u8 t1, .int .u8 f1, .int .u32 k1]) (.agg #[.int .u16 c2, .int .u8 t2, .int .u8 f2, .int .u32 k2])).run Try.prog W = .ok (.bool (decide ((c1, t1, f1, k1) = (c2, t2, f2, k2)))) W := by
  rw [run_eql_struct W 38, eq39 c1 t1 f1 k1 c2 t2 f2 k2 9998 W]; rfl
theorem neq39 (c1 t1 f1 k1 c2 t2 f2 k2 : Int) (W : World) :
    (binOp .neq 38 (.agg #[.int .u16 c1, .int .u8 t1, .int .u8 f1, .int .u32 k1]) (.agg #[.int .u16 c2, .int .u8 t2, .int .u8 f2, .int .u32 k2])).run Try.prog W = .ok (.bool (!decide ((c1, t1, f1, k1) = (c2, t2, f2, k2)))) W := by
  rw [run_neq_struct W 38, eq39 c1 t1 f1 k1 c2 t2 f2 k2 9998 W]; rfl

set_option maxHeartbeats 1600000 in
set_option maxRecDepth 1000000 in
theorem equal_any (a b : Option Addr) (l m : List M.I) (ca cb : Nat) (w : World) (hl : Lies w a l) (hm : Lies w b m) (bl : l.length ≤ 65536) (bm : m.length ≤ 65536) :
    Calls Try.prog 26 #[.slice a l.length ca, .slice b m.length cb] w fun e w' => e = .returned (.bool (decide (l = m))) ∧ ∃ n, w' = w.drewN n := by
  by_cases hlen : l.length = m.length
  · go_enter Try.func26, Try.ntmps26
    go_wp2
    go_loopw [13] (fun i wr => ∃ k q : Nat, k ≤ l.length ∧ i = .int .i64 k ∧ Hid (l.take k = m.take k) ∧ wr = w.drewN q) (fun i _ => l.length - (intOf i).toNat)
    case atStart => exact ⟨0, 0, Nat.zero_le _, rfl, rfl, rfl⟩
    case round =>
      obtain ⟨k, q, hk, rfl, HT, rfl⟩ := hrel
      by_cases hlt : k < l.length
      · have hlt' : k < m.length := by omega
        rcases hl with hl | ⟨b1, o1, rfl, hb1, hl⟩
        · rw [hl] at hlt; simp at hlt
        rcases hm with hm | ⟨b2, o2, rfl, hb2, hm⟩
        · rw [hm] at hlt'; simp at hlt'
        obtain ⟨p0, p1, p2, p3⟩ := hl k hlt
        obtain ⟨r0, r1, r2, r3⟩ := hm k hlt'
        have HX : Hid (∀ h : l[k] = m[k], l.take (k + 1) = m.take (k + 1)) := fun h => take_next hlt hlt' HT.out h
        have HY : Hid (∀ h : l[k] ≠ m[k], decide (l = m) = false) := fun h => by simp; intro e; subst e; exact h rfl
        clear hl hm HT
        generalize l[k] = x at *
        generalize m[k] = y at *
        obtain ⟨c1, t1, f1, k1⟩ := x
        obtain ⟨c2, t2, f2, k2⟩ := y
        simp only at p0 p1 p2 p3 r0 r1 r2 r3
        have i1 : (k : Int) < (l.length : Int) := by omega
        have i2 : (k : Int) < (m.length : Int) := by omega
        clear hb1 hb2 hlen
        have hg := guard39
        have hn := neq39 c1 t1 f1 k1 c2 t2 f2 k2
        by_cases hxy : (c1, t1, f1, k1) = (c2, t2, f2, k2)
        · have HR := HX.out hxy
          have hd : decide ((c1, t1, f1, k1) = (c2, t2, f2, k2)) = true := by simpa using hxy
          simp only [hd, Bool.not_true] at hn
          clear hxy hd HX HY
          have HR : Hid (l.take (k + 1) = m.take (k + 1)) := HR
          go_wp2
          go_quiet (fail)
          go_wp2
          go_roundw
          case rel => exact ⟨k + 1, _, by omega, by go_num, HR, rfl⟩
          case measure => simp [intOf]; omega
        · have HR := HY.out hxy
          have hd : decide ((c1, t1, f1, k1) = (c2, t2, f2, k2)) = false := by simpa using hxy
          simp only [hd, Bool.not_false] at hn
          clear hxy hd HX HY
          have HR : Hid (decide (l = m) = false) := HR
          go_wp2
          go_quiet (fail)
          go_wp2
          go_ret
          exact ⟨ret_bool HR.out.symm, _, dd _ _ _⟩
      · obtain rfl : k = l.length := by omega
        have HR : decide (l = m) = true := by
          have := HT.out
          rw [List.take_length, hlen, List.take_length] at this
          simpa using this
        have HR : Hid (decide (l = m) = true) := HR
        clear hl hm HT
        go_wp2
        go_ret
        exact ⟨ret_bool HR.out.symm, _, rfl⟩
  · have h1 : decide (l = m) = false := by simp; intro h; exact hlen (by rw [h])
    have h2 : ((l.length : Int) != (m.length : Int)) = true := by simp; omega
    rw [h1]
    go_enter Try.func26, Try.ntmps26
    go_wp2
    go_ret
    exact ⟨rfl, 0, rfl⟩

end Go.Proofs.Ytfmlefadifpocaa.B
namespace Go.Proofs.Ytfmlefadifpocaa.B
open Go.ChangeShapes Go.WideShapes Go.ChangeAt Go.RowKit Go.Deep
set_option linter.unusedVariables false
set_option maxRecDepth 100000

theorem cells39 : Try.prog.cellsOf 38 = 4 := by kernel_rfl
theorem cells36 : Try.prog.cellsOf 35 = 1 := by kernel_rfl
theorem cells5 : Try.prog.cellsOf 5 = 1 := by kernel_rfl
theorem cells37 : Try.prog.cellsOf 36 = 1 := by kernel_rfl

theorem open_cells {H : Type} {enc : TypeId × Value → H} {W : World} {base : Nat} {spare : Nat → Bool} {held : Bool} {fuel : Nat} {cs : List Value} {x : DataW H × List MemPlace}
    (h : DataW.trod enc Try.prog W base spare held fuel 38 cs = some x) :
    ∃ c t f k : Int, cs = [.int .u16 c, .int .u8 t, .int .u8 f, .int .u32 k] ∧ x.2 = [] ∧ M.okI (c, t, f, k) := by
  obtain ⟨xs, n, _, hx, hl, hxl, hf⟩ := DataW.trod_struct Try.underlying38 h
  rw [cells39] at hl
  match xs, hxl, cs, hl with
  | [y0, y1, y2, y3], _, [c0, c1, c2, c3], _ =>
    have g0 := hf 0 _ rfl
    have g1 := hf 1 _ rfl
    have g2 := hf 2 _ rfl
    have g3 := hf 3 _ rfl
    simp [cells36, cells5, cells37] at g0 g1 g2 g3
    obtain ⟨c, e0, hy0, wc⟩ := DataW.trod_int Try.underlying35 g0
    obtain ⟨t, e1, hy1, wt⟩ := DataW.trod_int Try.underlying5 g1
    obtain ⟨f, e2, hy2, wf⟩ := DataW.trod_int Try.underlying5 g2
    obtain ⟨k, e3, hy3, wk⟩ := DataW.trod_int Try.underlying36 g3
    simp at e0 e1 e2 e3
    subst e0 e1 e2 e3
    refine ⟨c, t, f, k, rfl, by rw [hx, hy0, hy1, hy2, hy3]; simp, ?_⟩
    have b0 := bounds_u16 wc
    have b1 := bounds_u8 wt
    have b2 := bounds_u8 wf
    have b3 := bounds_u32 wk
    unfold M.okI
    simp only
    omega

theorem arg_one {H : Type} {enc : TypeId × Value → H} {W : World} {base : Nat} {spare : Nat → Bool} {held : Bool} {v : Value} {d : DataW H} {p : List MemPlace} {b0 : Nat} {r : Reach}
    (hv : Value.okWide Try.prog W r b0 38 v) (h : DataW.Trod enc Try.prog W base spare held 38 v d p) :
    ∃ c t f k : Int, v = .agg #[.int .u16 c, .int .u8 t, .int .u8 f, .int .u32 k] ∧ p = [] ∧ M.okI (c, t, f, k) := by
  obtain ⟨cs, rfl, hsz⟩ := okWide_struct Try.underlying38 hv
  obtain ⟨fuel, hf⟩ := h
  obtain ⟨c, t, f, k, e, e2, ok⟩ := open_cells hf
  refine ⟨c, t, f, k, ?_, e2, ok⟩
  simp [Value.cells] at e
  rw [← Array.toList_inj.1 (show cs.toList = (#[.int .u16 c, .int .u8 t, .int .u8 f, .int .u32 k] : Array Value).toList from e)]

theorem arg_list {H : Type} {enc : TypeId × Value → H} {W : World} {base : Nat} {spare : Nat → Bool} {held : Bool} {v : Value} {d : DataW H} {p : List MemPlace} {b0 : Nat} {r : Reach}
    (hv : Value.okWide Try.prog W r b0 22 v) (h : DataW.Trod enc Try.prog W base spare held 22 v d p) :
    ∃ (a : Option Addr) (cap : Nat) (l : List M.I), v = .slice a l.length cap ∧ l.length ≤ cap ∧ cap ≤ maxLen ∧ Lies W a l ∧ (∀ i ∈ l, M.okI i) ∧ (l = [] ∧ a = none ∧ cap = 0 ∨ ∃ A, a = some A) := by
  obtain ⟨a0, len0, cap0, rfl⟩ := okWide_slice Try.underlying22 hv
  obtain ⟨fuel, hf⟩ := h
  rcases open_slice Try.underlying22 hf with ⟨h0, _⟩ | ⟨a, len, cap, m, n, D, Pl, h0, hb, hl, hm, hmm, hx, each⟩
  · simp [Value.cells] at h0
    obtain ⟨rfl, rfl, rfl⟩ := h0
    exact ⟨none, 0, [], rfl, Nat.le_refl _, Nat.zero_le _, .inl rfl, by simp, .inl ⟨rfl, rfl, rfl⟩⟩
  · simp [Value.cells] at h0
    obtain ⟨rfl, rfl, rfl⟩ := h0
    have hlm : len0 ≤ m := by rw [hmm]; split <;> omega
    have key : ∀ i, i < len0 → ∃ q : M.I, (W.cell? (a.add (i * 4)) = some (.int .u16 q.1) ∧ W.cell? (a.add (i * 4 + 1)) = some (.int .u8 q.2.1) ∧ W.cell? (a.add (i * 4 + 2)) = some (.int .u8 q.2.2.1) ∧ W.cell? (a.add (i * 4 + 3)) = some (.int .u32 q.2.2.2)) ∧ M.okI q := by
      intro i hi
      obtain ⟨cs', h1, h2⟩ := each i (by omega)
      rw [cells39] at h1
      obtain ⟨_, hlen, hcell⟩ := World.cells?_some h1
      obtain ⟨c, t, f, k, rfl, _, ok⟩ := open_cells h2
      have e0 := hcell 0 (by omega)
      have e1 := hcell 1 (by omega)
      have e2 := hcell 2 (by omega)
      have e3 := hcell 3 (by omega)
      rw [add_add] at e0 e1 e2 e3
      exact ⟨(c, t, f, k), ⟨by simpa using e0, by simpa using e1, by simpa using e2, by simpa using e3⟩, ok⟩
    obtain ⟨q, hq⟩ := choose_lt key
    have hll : ((List.range len0).map q).length = len0 := by simp
    refine ⟨some a, cap0, (List.range len0).map q, by rw [hll], by rw [hll]; exact hl, hm, ?_, ?_, .inr ⟨a, rfl⟩⟩
    · rcases Nat.eq_zero_or_pos len0 with h0 | h0
      · left; subst h0; rfl
      · right
        obtain ⟨b, off, spot⟩ := a
        have h00 := (hq 0 h0).1.1
        have hspot : spot = none := by simpa [Addr.add] using World.cell?_spot h00
        subst hspot
        have hlt := World.block_lt_of_cell? W _ h00
        refine ⟨b, off, rfl, by simpa [Addr.add] using hlt, fun j hj => ?_⟩
        rw [hll] at hj
        obtain ⟨⟨q0, q1, q2, q3⟩, _⟩ := hq j hj
        rw [add_plain] at q0 q1 q2 q3
        simp only [List.getElem_map, List.getElem_range]
        exact ⟨q0, q1, q2, q3⟩
    · intro i hi
      obtain ⟨j, hj, rfl⟩ := List.mem_map.1 hi
      exact (hq j (by simpa using hj)).2
end Go.Proofs.Ytfmlefadifpocaa.B
namespace Go.Proofs.Ytfmlefadifpocaa.M

def tbl : List (List UInt8 × Int) := [([108, 100], 32), ([108, 100, 108, 101, 110], 128), ([108, 100, 105], 0), ([108, 100, 109], 96), ([108, 100, 120, 105], 1), ([108, 100, 120, 109], 97), ([108, 100, 120, 108, 101, 110], 129), ([115, 116], 2), ([115, 116, 120], 3), ([97, 100, 100], 4), ([115, 117, 98], 20), ([109, 117, 108], 36), ([100, 105, 118], 52), ([111, 114], 68), ([97, 110, 100], 84), ([108, 115, 104], 100), ([114, 115, 104], 116), ([120, 111, 114], 164), ([97, 100, 100, 120], 12), ([115, 117, 98, 120], 28), ([109, 117, 108, 120], 44), ([100, 105, 118, 120], 60), ([111, 114, 120], 76), ([97, 110, 100, 120], 92), ([108, 115, 104, 120], 108), ([114, 115, 104, 120], 124), ([120, 111, 114, 120], 172), ([110, 101, 103], 132), ([106, 97], 5), ([106, 101, 113], 21), ([106, 103, 116], 37), ([106, 103, 101], 53), ([106, 115, 101, 116], 69), ([106, 101, 113, 120], 29), ([106, 103, 116, 120], 45), ([106, 103, 101, 120], 61), ([106, 115, 101, 116, 120], 77), ([114, 101, 116], 6), ([114, 101, 116, 97], 22), ([116, 97, 120], 7), ([116, 120, 97], 135)]
def codes : List Int := [0x00, 0x01, 0x02, 0x03, 0x04, 0x05, 0x06, 0x07, 0x0c, 0x14, 0x15, 0x16, 0x1c, 0x1d, 0x20, 0x24, 0x25, 0x2c, 0x2d, 0x34, 0x35, 0x3c, 0x3d, 0x44, 0x45, 0x4c, 0x4d, 0x54, 0x5c, 0x60, 0x61, 0x64, 0x6c, 0x74, 0x7c, 0x80, 0x81, 0x84, 0x87, 0xa4, 0xac]
def kinds : List (Int × Int) := [(32, 1), (128, 2), (0, 3), (96, 4), (1, 5), (97, 6), (129, 7), (2, 8), (3, 9), (4, 10), (20, 10), (36, 10), (52, 10), (68, 10), (84, 10), (100, 10), (116, 10), (164, 10), (12, 10), (28, 10), (44, 10), (60, 10), (76, 10), (92, 10), (108, 10), (124, 10), (172, 10), (132, 10), (5, 11), (21, 12), (37, 12), (53, 12), (69, 12), (29, 12), (45, 12), (61, 12), (77, 12), (6, 13), (22, 14), (7, 15), (135, 16)]
def find (s : List UInt8) : Option Int := (tbl.find? fun p => p.1 == s).map (·.2)
def name (c : Int) : List UInt8 := ((tbl.find? fun p => p.2 == c).map (·.1)).getD []
def kind (c : Int) : Int := ((kinds.find? fun p => c == p.1).map (·.2)).getD 0
def rdA (c : Int) : Bool := kind c == 8 || kind c == 10 || kind c == 12 || kind c == 14 || kind c == 15
def rdX (c : Int) : Bool := kind c == 9 || kind c == 16 || (kind c == 10 || kind c == 12) && c / 8 % 2 == 1
def wrA (c : Int) : Bool := kind c == 1 || kind c == 2 || kind c == 3 || kind c == 4 || kind c == 10 || kind c == 16
def wrX (c : Int) : Bool := kind c == 5 || kind c == 6 || kind c == 7 || kind c == 15
def ends (c : Int) : Bool := kind c == 13 || kind c == 14

theorem codes_perm : (tbl.map (·.2)).Perm codes := by decide
theorem kinds_codes : (kinds.map (·.1)).Perm codes := by decide
theorem vals_nodup : (tbl.map (·.2)).Nodup := by decide
theorem keys_nodup : (tbl.map (·.1)).Nodup := by decide
theorem keys_some : ∀ p ∈ tbl, p.1 ≠ [] := by decide
theorem keys_short : ∀ p ∈ tbl, p.1.length ≤ 6 := by decide
theorem vals_small : ∀ p ∈ tbl, 0 ≤ p.2 ∧ p.2 < 256 := by decide
theorem codes_sorted : codes.Pairwise (· < ·) := by decide

theorem find_eq_none {α : Type} (l : List α) (f : α → Bool) : l.find? f = none ↔ ∀ x ∈ l, f x = false := by simp [List.find?_eq_none]

theorem find_mem {s : List UInt8} {c : Int} (h : find s = some c) : (s, c) ∈ tbl := by
  unfold find at h
  cases e : tbl.find? (fun p => p.1 == s) with
  | none => rw [e] at h; cases h
  | some p =>
    rw [e] at h
    have := List.mem_of_find?_eq_some e
    have hp := List.find?_some e
    simp at h hp
    rw [← hp, ← h]
    exact this
theorem nodup_inj {α β : Type} [DecidableEq β] {l : List α} {f : α → β} (h : (l.map f).Nodup) {x y : α} (hx : x ∈ l) (hy : y ∈ l) (e : f x = f y) : x = y := by
  induction l with
  | nil => cases hx
  | cons a l ih =>
    simp only [List.map_cons, List.nodup_cons, List.mem_map, not_exists, not_and] at h
    rcases List.mem_cons.1 hx with hx' | hx'
    · rcases List.mem_cons.1 hy with hy' | hy'
      · rw [hx', hy']
      · rw [hx'] at e; exact absurd e.symm (h.1 y hy')
    · rcases List.mem_cons.1 hy with hy' | hy'
      · rw [hy'] at e; exact absurd e (h.1 x hx')
      · exact ih h.2 hx' hy'
theorem mem_find {s : List UInt8} {c : Int} (h : (s, c) ∈ tbl) : find s = some c := by
  unfold find
  cases e : tbl.find? (fun p => p.1 == s) with
  | none =>
    have := (find_eq_none _ _).1 e (s, c) h
    simp at this
  | some p =>
    have hm := List.mem_of_find?_eq_some e
    have hp := List.find?_some e
    simp at hp
    have := nodup_inj keys_nodup hm h hp
    rw [this]; rfl
theorem mem_name {s : List UInt8} {c : Int} (h : (s, c) ∈ tbl) : name c = s := by
  unfold name
  cases e : tbl.find? (fun p => p.2 == c) with
  | none =>
    have := (find_eq_none _ _).1 e (s, c) h
    simp at this
  | some p =>
    have hm := List.mem_of_find?_eq_some e
    have hp := List.find?_some e
    simp at hp
    have := nodup_inj vals_nodup hm h hp
    rw [this]; rfl
theorem name_none {c : Int} (h : ∀ p ∈ tbl, p.2 ≠ c) : name c = [] := by
  unfold name
  rw [(find_eq_none _ _).2 (fun p hp => by simpa using h p hp)]
  rfl
theorem name_mem {c : Int} (h : name c ≠ []) : (name c, c) ∈ tbl := by
  by_cases hc : ∃ p ∈ tbl, p.2 = c
  · obtain ⟨⟨s, d⟩, hp, rfl⟩ := hc
    rw [mem_name hp]; exact hp
  · exact absurd (name_none fun p hp e => hc ⟨p, hp, e⟩) h
theorem find_nil : find [] = none := by decide
theorem mem_codes {c : Int} : c ∈ codes ↔ ∃ s, (s, c) ∈ tbl := by
  rw [← codes_perm.mem_iff, List.mem_map]
  exact ⟨fun ⟨p, hp, e⟩ => ⟨p.1, by rw [← e]; exact hp⟩, fun ⟨s, h⟩ => ⟨_, h, rfl⟩⟩
theorem name_codes {c : Int} : name c ≠ [] ↔ c ∈ codes := by
  rw [mem_codes]
  refine ⟨fun h => ⟨_, name_mem h⟩, fun ⟨s, h⟩ => ?_⟩
  rw [mem_name h]
  exact keys_some _ h
theorem kind_none {c : Int} (h : c ∉ codes) : kind c = 0 := by
  unfold kind
  rw [(find_eq_none _ _).2 (fun p hp => by
    have : p.1 ∈ codes := kinds_codes.mem_iff.1 (List.mem_map.2 ⟨p, hp, rfl⟩)
    simp only [beq_eq_false_iff_ne, ne_eq]
    rintro rfl
    exact h this)]
  rfl
/-- What is so of each code, and of what is none, is so. -/
theorem all_codes {p : Int → Prop} (h1 : ∀ c ∈ codes, p c) (h2 : ∀ c, c ∉ codes → p c) (c : Int) : p c := by
  by_cases h : c ∈ codes
  · exact h1 c h
  · exact h2 c h
end Go.Proofs.Ytfmlefadifpocaa.M
namespace Go.Proofs.Ytfmlefadifpocaa.B
open Go.ChangeShapes Go.WideShapes Go.ChangeAt Go.RowKit
set_option linter.unusedVariables false

set_option maxHeartbeats 4000000 in
set_option maxRecDepth 100000 in
theorem kind_any (c : Int) (w : World) : Calls Try.prog 41 #[.int .u16 c] w fun e w' => e = .returned (.int .i64 (M.kind c)) ∧ w' = w := by
  go_enter Try.func41, Try.ntmps41
  go_wp2
  all_goals go_ret
  all_goals first
    | (rename_i h; obtain rfl := eq_of_beq h; exact ⟨rfl, rfl⟩)
    | (refine ⟨congrArg (fun x => Ending.returned (Value.int .i64 x)) (?_ : (0 : Int) = M.kind c), rfl⟩; simp only [M.kind, M.kinds, List.find?, *]; rfl)

theorem bit8 : ∀ c ∈ M.codes, (bits BinOp.and IntKind.u16 c 8 != 0) = (c / 8 % 2 == 1) := by decide
theorem bit8k {c : Int} (h : M.kind c ≠ 0) : (bits BinOp.and IntKind.u16 c 8 != 0) = (c / 8 % 2 == 1) := by
  by_cases hc : c ∈ M.codes
  · exact bit8 c hc
  · exact absurd (M.kind_none hc) h
theorem tup2 {a b a' b' : Bool} (h : a = a') (h' : b = b') : Ending.returned (.tuple #[.bool a, .bool b]) = .returned (.tuple #[.bool a', .bool b']) := by rw [h, h']

set_option maxHeartbeats 4000000 in
set_option maxRecDepth 100000 in
theorem ends_any (c : Int) (w : World) : Calls Try.prog 38 #[.int .u16 c] w fun e w' => e = .returned (.bool (M.ends c)) ∧ w' = w := by
  go_enter Try.func38, Try.ntmps38
  go_wp2_with (go_at_call 41; refine (kind_any _ _).mono ?_; rintro e w' ⟨rfl, rfl⟩)
  all_goals go_ret
  all_goals exact ⟨by simp [M.ends, *], rfl⟩
end Go.Proofs.Ytfmlefadifpocaa.B
namespace Go.Proofs.Ytfmlefadifpocaa.R

def okR (l : List Int) : Prop := l.length = 16 ∧ ∀ i, 0 ≤ l.getD i 0 ∧ l.getD i 0 < 4294967296
def at_ (l : List Int) (i : Nat) : Int := l.getD i 0
theorem at_bd {l : List Int} (ok : okR l) (i : Nat) : 0 ≤ at_ l i ∧ at_ l i < 4294967296 := ok.2 i
def zero : List Int := List.replicate 16 0
theorem at_zero (i : Nat) : at_ zero i = 0 := by
  unfold at_ zero
  rw [List.getD_eq_getElem?_getD, List.getElem?_replicate]
  split <;> rfl
theorem ok_zero : okR zero := ⟨rfl, fun i => by have := at_zero i; unfold at_ at this; omega⟩
theorem at_set (l : List Int) (h : l.length = 16) (i j : Nat) (v : Int) (hi : i < 16) : at_ (l.set i v) j = if j = i then v else at_ l j := by
  unfold at_
  simp only [List.getD_eq_getElem?_getD, List.getElem?_set]
  by_cases e : i = j
  · subst e; simp [h, hi]
  · simp [e, Ne.symm e]
theorem ok_set {l : List Int} (ok : okR l) (i : Nat) (v : Int) (hi : i < 16) (hv : 0 ≤ v ∧ v < 4294967296) : okR (l.set i v) := by
  refine ⟨by rw [List.length_set]; exact ok.1, fun j => ?_⟩
  have := at_set l ok.1 i j v hi
  unfold at_ at this
  rw [this]
  split
  · exact hv
  · exact ok.2 j
theorem ext16 {l m : List Int} (hl : l.length = 16) (hm : m.length = 16) (h : ∀ i, i < 16 → at_ l i = at_ m i) : l = m := by
  apply List.ext_getElem (by omega)
  intro i h1 h2
  have := h i (by omega)
  unfold at_ at this
  simpa [List.getD_eq_getElem?_getD, List.getElem?_eq_getElem h1, List.getElem?_eq_getElem h2] using this

def isL (n : Int) : Bool := decide (n < 64 ∧ n % 4 = 0)
def load (l : List Int) (n : Int) : Int := if isL n = true then at_ l (n / 4).toNat else 0
def isF (f : Int) : Bool := decide (0 ≤ f ∧ f ≤ 8)
def place (f : Int) : Int := if f < 0 ∨ 8 < f then -1 else if f < 2 then f else 2 * f - 2
def width (f : Int) : Int := if f < 0 ∨ 8 < f then 0 else if f < 2 then 32 else 64
def ofw (n : Int) : Int := if n < 0 ∨ 16 ≤ n then -1 else if n < 2 then n else 2 + (n - 2) / 2
def hiw (n : Int) : Bool := if n < 0 ∨ 16 ≤ n then false else if n < 2 then false else decide ((n - 2) % 2 = 1)
def field (l : List Int) (f : Int) : Int :=
  if f < 0 ∨ 8 < f then 0 else if f < 2 then at_ l f.toNat else at_ l (2 * f - 2).toNat + 4294967296 * at_ l (2 * f - 1).toNat
def fits (f v : Int) : Bool := decide ((0 ≤ f ∧ f ≤ 8) ∧ (2 ≤ f ∨ v < 4294967296))
def with_ (l : List Int) (f v : Int) : List Int :=
  if fits f v = true then (if f < 2 then l.set f.toNat v else (l.set (2 * f - 2).toNat (v % 4294967296)).set (2 * f - 1).toNat (v / 4294967296)) else zero
theorem ok_with {l : List Int} (ok : okR l) (f v : Int) (hv : 0 ≤ v ∧ v < 18446744073709551616) : okR (with_ l f v) := by
  unfold with_
  split
  · rename_i h
    unfold fits at h
    have h' := of_decide_eq_true h
    split
    · exact ok_set ok _ _ (by omega) (by omega)
    · exact ok_set (ok_set ok _ _ (by omega) (by omega)) _ _ (by omega) (by omega)
  · exact ok_zero
theorem field_bd {l : List Int} (ok : okR l) (f : Int) : 0 ≤ field l f ∧ field l f < 18446744073709551616 := by
  have h1 := at_bd ok f.toNat
  have h2 := at_bd ok (2 * f - 2).toNat
  have h3 := at_bd ok (2 * f - 1).toNat
  unfold field
  split
  · omega
  · split <;> omega
theorem field_fits {l : List Int} (ok : okR l) (f : Int) (h : isF f = true) : fits f (field l f) = true := by
  have h' := of_decide_eq_true (show decide (0 ≤ f ∧ f ≤ 8) = true from h)
  have h1 := at_bd ok f.toNat
  unfold fits field
  apply decide_eq_true
  refine ⟨h', ?_⟩
  rw [if_neg (by omega)]
  by_cases e : f < 2
  · rw [if_pos e]; omega
  · omega
theorem place_lt {f : Int} (h0 : 0 ≤ f) (h : f < 2) : place f = f := by unfold place; rw [if_neg (by omega), if_pos h]
theorem place_ge {f : Int} (h : 2 ≤ f) (h8 : f ≤ 8) : place f = 2 * f - 2 := by unfold place; rw [if_neg (by omega), if_neg (by omega)]
theorem fits_iff {f v : Int} : fits f v = true ↔ (0 ≤ f ∧ f ≤ 8) ∧ (2 ≤ f ∨ v < 4294967296) := by unfold fits; exact decide_eq_true_iff
/-- the words of a record in which a field was set -/
theorem at_with {l : List Int} (ok : okR l) (f v : Int) (h0 : 0 ≤ v) (h : fits f v = true) (j : Nat) : at_ (with_ l f v) j =
    if (j : Int) = place f then v % 4294967296 else if 2 ≤ f ∧ (j : Int) = place f + 1 then v / 4294967296 else at_ l j := by
  have h' := fits_iff.1 h
  unfold with_
  rw [if_pos h]
  by_cases e : f < 2
  · have hv : v % 4294967296 = v := by omega
    rw [if_pos e, place_lt h'.1.1 e, at_set l ok.1 _ _ _ (by omega), hv]
    by_cases e2 : j = f.toNat
    · rw [if_pos e2, if_pos (by omega)]
    · rw [if_neg e2, if_neg (by omega), if_neg (by omega)]
  · rw [if_neg e, place_ge (by omega) h'.1.2, at_set _ (by rw [List.length_set]; exact ok.1) _ _ _ (by omega), at_set l ok.1 _ _ _ (by omega)]
    by_cases e2 : j = (2 * f - 1).toNat
    · rw [if_pos e2, if_neg (by omega), if_pos (by omega)]
    · rw [if_neg e2]
      by_cases e3 : j = (2 * f - 2).toNat
      · rw [if_pos e3, if_pos (by omega)]
      · rw [if_neg e3, if_neg (by omega), if_neg (by omega)]
theorem field_lt (l : List Int) {f : Int} (h0 : 0 ≤ f) (h : f < 2) : field l f = at_ l f.toNat := by unfold field; rw [if_neg (by omega), if_pos h]
theorem field_ge (l : List Int) {f : Int} (h : 2 ≤ f) (h8 : f ≤ 8) : field l f = at_ l (2 * f - 2).toNat + 4294967296 * at_ l (2 * f - 1).toNat := by unfold field; rw [if_neg (by omega), if_neg (by omega)]
theorem place_inj {f g : Int} (hf : 0 ≤ f ∧ f ≤ 8) (hg : 0 ≤ g ∧ g ≤ 8) (h : f ≠ g) : place f ≠ place g ∧ (2 ≤ f → place f + 1 ≠ place g) ∧ (2 ≤ f → 2 ≤ g → place f + 1 ≠ place g + 1) ∧ (2 ≤ g → place f ≠ place g + 1) := by
  by_cases e1 : f < 2
  · rw [place_lt hf.1 e1]
    by_cases e2 : g < 2
    · rw [place_lt hg.1 e2]; omega
    · rw [place_ge (by omega) hg.2]; omega
  · rw [place_ge (by omega) hf.2]
    by_cases e2 : g < 2
    · rw [place_lt hg.1 e2]; omega
    · rw [place_ge (by omega) hg.2]; omega
/-- a field that is set is told, and the others stay -/
theorem field_with {l : List Int} (ok : okR l) (f v k : Int) (h0 : 0 ≤ v) (h : fits f v = true) (hk : 0 ≤ k ∧ k ≤ 8) : field (with_ l f v) k = if k = f then v else field l k := by
  have h' := fits_iff.1 h
  by_cases e : k = f
  · subst e
    rw [if_pos rfl]
    by_cases e1 : k < 2
    · rw [field_lt _ hk.1 e1, at_with ok _ _ h0 h, if_pos (by rw [place_lt hk.1 e1]; omega)]
      omega
    · rw [field_ge _ (by omega) hk.2, at_with ok _ _ h0 h, at_with ok _ _ h0 h, if_pos (by rw [place_ge (by omega) hk.2]; omega), if_neg (by rw [place_ge (by omega) hk.2]; omega), if_pos (by rw [place_ge (by omega) hk.2]; omega)]
      omega
  · rw [if_neg e]
    have hp := place_inj h'.1 hk (Ne.symm e)
    by_cases e1 : k < 2
    · rw [place_lt hk.1 e1] at hp
      rw [field_lt _ hk.1 e1, field_lt _ hk.1 e1, at_with ok _ _ h0 h, if_neg (by omega), if_neg (by omega)]
    · rw [place_ge (by omega) hk.2] at hp
      rw [field_ge _ (by omega) hk.2, field_ge _ (by omega) hk.2, at_with ok _ _ h0 h, at_with ok _ _ h0 h, if_neg (by omega), if_neg (by omega), if_neg (by omega), if_neg (by omega)]
theorem with_len {l : List Int} (ok : okR l) (f v : Int) (h : 0 ≤ v ∧ v < 18446744073709551616) : (with_ l f v).length = 16 := (ok_with ok f v h).1
/-- set twice: as it was set last -/
theorem with_twice {l : List Int} (ok : okR l) (f v u : Int) (hv : 0 ≤ v ∧ v < 18446744073709551616) (hu : 0 ≤ u ∧ u < 18446744073709551616) (h : fits f v = true) (h2 : fits f u = true) : with_ (with_ l f v) f u = with_ l f u := by
  have o1 := ok_with ok f v hv
  refine ext16 (with_len o1 f u hu) (with_len ok f u hu) fun j hj => ?_
  rw [at_with o1 _ _ hu.1 h2, at_with ok _ _ hu.1 h2, at_with ok _ _ hv.1 h]
  split
  · rfl
  · split <;> rfl
/-- a field set to what it holds -/
theorem with_same {l : List Int} (ok : okR l) (f : Int) (h : isF f = true) : with_ l f (field l f) = l := by
  have h' := of_decide_eq_true (show decide (0 ≤ f ∧ f ≤ 8) = true from h)
  have hb := field_bd ok f
  refine ext16 (with_len ok f _ hb) ok.1 fun j hj => ?_
  rw [at_with ok _ _ hb.1 (field_fits ok f h)]
  by_cases e : f < 2
  · have b := at_bd ok f.toNat
    rw [place_lt h'.1 e, field_lt l h'.1 e]
    by_cases e2 : (j : Int) = f
    · rw [if_pos e2, show f.toNat = j by omega]
      rw [show f.toNat = j by omega] at b
      omega
    · rw [if_neg e2, if_neg (by omega)]
  · have b := at_bd ok (2 * f - 2).toNat
    have b2 := at_bd ok (2 * f - 1).toNat
    rw [place_ge (by omega) h'.2, field_ge l (by omega) h'.2]
    by_cases e2 : (j : Int) = 2 * f - 2
    · rw [if_pos e2, show (2 * f - 2).toNat = j by omega]
      rw [show (2 * f - 2).toNat = j by omega] at b
      omega
    · rw [if_neg e2]
      by_cases e3 : (j : Int) = 2 * f - 1
      · rw [if_pos (by omega), show (2 * f - 1).toNat = j by omega]
        rw [show (2 * f - 1).toNat = j by omega] at b2
        omega
      · rw [if_neg (by omega)]
theorem with_back {l : List Int} (ok : okR l) (f v : Int) (hv : 0 ≤ v ∧ v < 18446744073709551616) (h : fits f v = true) : with_ (with_ l f v) f (field l f) = l := by
  have hF : isF f = true := by unfold isF; exact decide_eq_true (fits_iff.1 h).1
  rw [with_twice ok f v _ hv (field_bd ok f) h (field_fits ok f hF), with_same ok f hF]
theorem with_comm {l : List Int} (ok : okR l) (f g v u : Int) (hv : 0 ≤ v ∧ v < 18446744073709551616) (hu : 0 ≤ u ∧ u < 18446744073709551616) (h : fits f v = true) (h2 : fits g u = true) (hne : f ≠ g) : with_ (with_ l f v) g u = with_ (with_ l g u) f v := by
  have o1 := ok_with ok f v hv
  have o2 := ok_with ok g u hu
  have hp := place_inj (fits_iff.1 h).1 (fits_iff.1 h2).1 hne
  refine ext16 (with_len o1 g u hu) (with_len o2 f v hv) fun j hj => ?_
  rw [at_with o1 _ _ hu.1 h2, at_with ok _ _ hv.1 h, at_with o2 _ _ hv.1 h, at_with ok _ _ hu.1 h2]
  by_cases a : (j : Int) = place g
  · rw [if_pos a, if_neg (by omega), if_neg (by omega), if_pos a]
  · rw [if_neg a]
    by_cases b : 2 ≤ g ∧ (j : Int) = place g + 1
    · rw [if_pos b, if_neg (by omega), if_neg (by omega), if_neg a, if_pos b]
    · rw [if_neg b, if_neg a, if_neg b]

/-- where field k begins (9: behind the last) -/
def pl (k : Nat) : Nat := if k < 2 then k else 2 * k - 2
/-- the first k fields are those of a, the rest is 0 -/
def Upto (a c : List Int) (k : Nat) : Prop := ∀ i, i < 16 → at_ c i = if i < pl k then at_ a i else 0
theorem upto_zero (a : List Int) : Upto a zero 0 := fun i hi => by rw [at_zero, show pl 0 = 0 from rfl, if_neg (by omega)]
theorem upto_next {a c : List Int} (oka : okR a) (okc : okR c) (k : Nat) (hk : k < 9) (h : Upto a c k) : Upto a (with_ c k (field a k)) (k + 1) := by
  intro i hi
  have hF : isF (k : Int) = true := decide_eq_true (by omega)
  rw [at_with okc _ _ (field_bd oka k).1 (field_fits oka k hF), h i hi]
  by_cases e : (k : Int) < 2
  · have b := at_bd oka k
    have p1 : pl k = k := by unfold pl; rw [if_pos (by omega)]
    have p2 : pl (k + 1) = k + 1 := by unfold pl; split <;> omega
    rw [place_lt (by omega) e, field_lt a (by omega) e, p1, p2, show (k : Int).toNat = k by omega]
    by_cases e2 : (i : Int) = k
    · rw [if_pos e2, if_pos (by omega), show i = k by omega]
      omega
    · rw [if_neg e2, if_neg (by omega)]
      by_cases e3 : i < k
      · rw [if_pos e3, if_pos (by omega)]
      · rw [if_neg e3, if_neg (by omega)]
  · have b1 := at_bd oka (2 * k - 2)
    have b2 := at_bd oka (2 * k - 1)
    have p1 : pl k = 2 * k - 2 := by unfold pl; rw [if_neg (by omega)]
    have p2 : pl (k + 1) = 2 * k := by unfold pl; split <;> omega
    rw [place_ge (by omega) (by omega), field_ge a (by omega) (by omega), p1, p2, show (2 * (k : Int) - 2).toNat = 2 * k - 2 by omega, show (2 * (k : Int) - 1).toNat = 2 * k - 1 by omega]
    by_cases e2 : (i : Int) = 2 * k - 2
    · rw [if_pos e2, if_pos (by omega), show i = 2 * k - 2 by omega]
      omega
    · rw [if_neg e2]
      by_cases e3 : i = 2 * k - 1
      · rw [if_pos (by omega), if_pos (by omega), e3]
        omega
      · rw [if_neg (by omega)]
        by_cases e4 : i < 2 * k - 2
        · rw [if_pos e4, if_pos (by omega)]
        · rw [if_neg e4, if_neg (by omega)]
theorem upto_all {a c : List Int} (oka : okR a) (okc : okR c) (h : Upto a c 9) : c = a :=
  ext16 okc.1 oka.1 fun i hi => by rw [h i hi, if_pos (by rw [show pl 9 = 16 from rfl]; omega)]
theorem fields_all {a b : List Int} (oka : okR a) (okb : okR b) (h : ∀ f : Nat, f < 9 → field a f = field b f) : a = b := by
  refine ext16 oka.1 okb.1 fun i hi => ?_
  by_cases e : i < 2
  · have := h i (by omega)
    rw [field_lt a (by omega) (by omega), field_lt b (by omega) (by omega)] at this
    exact this
  · obtain ⟨k, hk⟩ : ∃ k, k = i / 2 + 1 := ⟨_, rfl⟩
    have hh := h k (by omega)
    rw [field_ge a (by omega) (by omega), field_ge b (by omega) (by omega), show (2 * (k : Int) - 2).toNat = 2 * k - 2 by omega, show (2 * (k : Int) - 1).toNat = 2 * k - 1 by omega] at hh
    have a1 := at_bd oka (2 * k - 2)
    have a2 := at_bd oka (2 * k - 1)
    have b1 := at_bd okb (2 * k - 2)
    have b2 := at_bd okb (2 * k - 1)
    have q1 : at_ a (2 * k - 2) = at_ b (2 * k - 2) := by omega
    have q2 : at_ a (2 * k - 1) = at_ b (2 * k - 1) := by omega
    rcases Nat.mod_two_eq_zero_or_one i with hm | hm
    · rw [show i = 2 * k - 2 by omega]; exact q1
    · rw [show i = 2 * k - 1 by omega]; exact q2

/-! bytes -/
def str (ns : List Int) : ByteArray := ns.foldl (fun r n => r.push (UInt8.ofNat n.toNat)) ByteArray.empty
theorem foldl_push (ns : List Int) (s : ByteArray) : (ns.foldl (fun r n => r.push (UInt8.ofNat n.toNat)) s).data.toList = s.data.toList ++ ns.map fun n => UInt8.ofNat n.toNat := by
  induction ns generalizing s with
  | nil => simp
  | cons n ns ih => rw [List.foldl_cons, ih]; simp [ByteArray.push]
theorem str_list (ns : List Int) : (str ns).data.toList = ns.map fun n => UInt8.ofNat n.toNat := by
  unfold str; rw [foldl_push]; simp
theorem bytes_ext {a b : ByteArray} (h : a.data.toList = b.data.toList) : a = b := by
  cases a; cases b; simp only [ByteArray.mk.injEq]; exact Array.toList_inj.1 h
theorem str_size (ns : List Int) : (str ns).size = ns.length := by
  show (str ns).data.size = _
  rw [← Array.length_toList, str_list, List.length_map]
/-- the byte at place i of a text -/
def byt (s : ByteArray) (i : Nat) : Int := ((s.data.toList.getD i 0).toNat : Int)
theorem byt_bd (s : ByteArray) (i : Nat) : 0 ≤ byt s i ∧ byt s i < 256 := by
  unfold byt
  have := (s.data.toList.getD i 0).toNat_lt
  omega
theorem byt_get (s : ByteArray) (i : Nat) (h : i < s.size) : ((s[i]).toNat : Int) = byt s i := by
  unfold byt
  rw [List.getD_eq_getElem?_getD, List.getElem?_eq_getElem (by simpa using h)]
  rfl
theorem byt_str (ns : List Int) (i : Nat) (h : i < ns.length) (hb : 0 ≤ ns[i] ∧ ns[i] < 256) : byt (str ns) i = ns[i] := by
  unfold byt
  rw [str_list, List.getD_eq_getElem?_getD, List.getElem?_map, List.getElem?_eq_getElem h]
  simp [UInt8.toNat_ofNat']
  omega
def bytes (x : Int) : List Int := [x % 256, x / 256 % 256, x / 65536 % 256, x / 16777216 % 256]
def pr (l : List Int) : List Int := l.flatMap bytes
theorem pr_len (l : List Int) : (pr l).length = 4 * l.length := by
  induction l with
  | nil => rfl
  | cons a l ih => rw [show pr (a :: l) = bytes a ++ pr l from rfl, List.length_append, ih, List.length_cons, show (bytes a).length = 4 from rfl]; omega
theorem pr_snoc (l : List Int) (x : Int) : pr (l ++ [x]) = pr l ++ bytes x := by simp [pr]
theorem pr_take (l : List Int) (k : Nat) (h : k < l.length) : pr (l.take (k + 1)) = pr (l.take k) ++ bytes (at_ l k) := by
  rw [List.take_add_one, List.getElem?_eq_getElem h, Option.toList_some, pr_snoc]
  simp [at_, List.getD_eq_getElem?_getD, List.getElem?_eq_getElem h]
theorem pr_get (l : List Int) (i : Nat) (h : i < 4 * l.length) : (pr l)[i]? = (bytes (at_ l (i / 4)))[i % 4]? := by
  induction l generalizing i with
  | nil => simp at h
  | cons a l ih =>
    rw [show pr (a :: l) = bytes a ++ pr l from rfl]
    by_cases e : i < 4
    · rw [List.getElem?_append_left (by show i < 4; exact e), show i / 4 = 0 by omega, show i % 4 = i by omega]
      rfl
    · rw [List.getElem?_append_right (by show 4 ≤ i; omega), show (bytes a).length = 4 from rfl, ih (i - 4) (by rw [List.length_cons] at h; omega)]
      rw [show i / 4 = (i - 4) / 4 + 1 by omega, show i % 4 = (i - 4) % 4 by omega]
      rfl
theorem bytes_bd (x : Int) (k : Nat) (h : k < 4) : ∃ y, (bytes x)[k]? = some y ∧ 0 ≤ y ∧ y < 256 := by
  match k, h with
  | 0, _ => exact ⟨_, rfl, by omega⟩
  | 1, _ => exact ⟨_, rfl, by omega⟩
  | 2, _ => exact ⟨_, rfl, by omega⟩
  | 3, _ => exact ⟨_, rfl, by omega⟩
theorem byt_pr (l : List Int) (i : Nat) (y : Int) (h : i < 4 * l.length) (hy : (bytes (at_ l (i / 4)))[i % 4]? = some y) : byt (str (pr l)) i = y := by
  have hg := pr_get l i h
  rw [hy] at hg
  obtain ⟨hi, he⟩ := List.getElem?_eq_some_iff.1 hg
  obtain ⟨z, hz, b⟩ := bytes_bd (at_ l (i / 4)) (i % 4) (by omega)
  obtain rfl : z = y := by rw [hz] at hy; simpa using hy
  rw [byt_str _ _ hi (by rw [he]; exact b), he]
/-- the word whose four bytes begin at place p -/
def rd (s : ByteArray) (p : Nat) : Int := byt s p + 256 * byt s (p + 1) + 65536 * byt s (p + 2) + 16777216 * byt s (p + 3)
def rdl (s : ByteArray) (n : Nat) : List Int := (List.range n).map fun j => rd s (4 * j)
def rdr (s : ByteArray) : List Int := rdl s 16
theorem rd_bd (s : ByteArray) (p : Nat) : 0 ≤ rd s p ∧ rd s p < 4294967296 := by
  have h0 := byt_bd s p; have h1 := byt_bd s (p + 1); have h2 := byt_bd s (p + 2); have h3 := byt_bd s (p + 3)
  unfold rd; omega
theorem at_rdl (s : ByteArray) (n i : Nat) : at_ (rdl s n) i = if i < n then rd s (4 * i) else 0 := by
  unfold at_ rdl
  rw [List.getD_eq_getElem?_getD, List.getElem?_map]
  by_cases h : i < n
  · rw [if_pos h, List.getElem?_range h]; rfl
  · rw [if_neg h, List.getElem?_eq_none (by simpa using h)]; rfl
theorem ok_rdr (s : ByteArray) : okR (rdr s) := by
  refine ⟨by simp [rdr, rdl], fun i => ?_⟩
  have := at_rdl s 16 i
  unfold at_ at this
  show 0 ≤ (rdl s 16).getD i 0 ∧ (rdl s 16).getD i 0 < 4294967296
  rw [this]
  split
  · exact rd_bd s _
  · omega
theorem rd_pr (l : List Int) (ok : okR l) (j : Nat) (h : j < 16) : rd (str (pr l)) (4 * j) = at_ l j := by
  have hl := ok.1
  have b := at_bd ok j
  have h0 := byt_pr l (4 * j) (at_ l j % 256) (by omega) (by rw [show 4 * j / 4 = j by omega, show 4 * j % 4 = 0 by omega]; rfl)
  have h1 := byt_pr l (4 * j + 1) (at_ l j / 256 % 256) (by omega) (by rw [show (4 * j + 1) / 4 = j by omega, show (4 * j + 1) % 4 = 1 by omega]; rfl)
  have h2 := byt_pr l (4 * j + 2) (at_ l j / 65536 % 256) (by omega) (by rw [show (4 * j + 2) / 4 = j by omega, show (4 * j + 2) % 4 = 2 by omega]; rfl)
  have h3 := byt_pr l (4 * j + 3) (at_ l j / 16777216 % 256) (by omega) (by rw [show (4 * j + 3) / 4 = j by omega, show (4 * j + 3) % 4 = 3 by omega]; rfl)
  unfold rd
  rw [h0, h1, h2, h3]
  omega
theorem rdr_pr (l : List Int) (ok : okR l) : rdr (str (pr l)) = l :=
  ext16 (ok_rdr _).1 ok.1 fun i hi => by
    show at_ (rdl _ 16) i = _
    rw [at_rdl, if_pos hi, rd_pr l ok i hi]
theorem pr_rdr (s : ByteArray) (h : s.size = 64) : str (pr (rdr s)) = s := by
  apply bytes_ext
  have hs : s.data.toList.length = 64 := by simpa using h
  have hp : (pr (rdr s)).length = 64 := by rw [pr_len, (ok_rdr s).1]
  apply List.ext_getElem (by rw [str_list, List.length_map, hp, hs])
  intro i h1 h2
  have hi : i < 64 := by omega
  have key : byt (str (pr (rdr s))) i = byt s i := by
    have ha : at_ (rdr s) (i / 4) = rd s (4 * (i / 4)) := by
      show at_ (rdl _ 16) _ = _
      rw [at_rdl, if_pos (by omega)]
    have h0 := byt_bd s (4 * (i / 4)); have b1 := byt_bd s (4 * (i / 4) + 1); have b2 := byt_bd s (4 * (i / 4) + 2); have b3 := byt_bd s (4 * (i / 4) + 3)
    refine byt_pr (rdr s) i _ (by rw [(ok_rdr s).1]; omega) ?_
    rw [ha]
    obtain ⟨q, hq⟩ : ∃ q, q = i / 4 := ⟨_, rfl⟩
    obtain ⟨r, hr⟩ : ∃ r, r = i % 4 := ⟨_, rfl⟩
    rw [← hq, ← hr]
    rw [← hq] at h0 b1 b2 b3
    rw [show i = 4 * q + r by omega]
    unfold rd
    match r, (show r < 4 by omega) with
    | 0, _ => show some _ = some _; congr 1; show _ = byt s (4 * q); omega
    | 1, _ => show some _ = some _; congr 1; omega
    | 2, _ => show some _ = some _; congr 1; omega
    | 3, _ => show some _ = some _; congr 1; omega
  unfold byt at key
  rw [List.getD_eq_getElem?_getD, List.getD_eq_getElem?_getD, List.getElem?_eq_getElem h1, List.getElem?_eq_getElem h2] at key
  simp only [Option.getD_some] at key
  apply UInt8.toNat_inj.1
  omega
/-- the first k words read, the rest 0 -/
def fill (s : ByteArray) (k : Nat) : List Int := (List.range 16).map fun j => if j < k then rd s (4 * j) else 0
theorem fill_len (s : ByteArray) (k : Nat) : (fill s k).length = 16 := by simp [fill]
theorem at_fill (s : ByteArray) (k i : Nat) (hi : i < 16) : at_ (fill s k) i = if i < k then rd s (4 * i) else 0 := by
  unfold at_ fill
  rw [List.getD_eq_getElem?_getD, List.getElem?_map, List.getElem?_range hi]
  rfl
theorem fill_zero (s : ByteArray) : fill s 0 = zero := ext16 (fill_len s 0) ok_zero.1 fun i hi => by rw [at_fill s 0 i hi, at_zero, if_neg (by omega)]
theorem fill_all (s : ByteArray) : fill s 16 = rdr s := ext16 (fill_len s 16) (ok_rdr s).1 fun i hi => by
  show _ = at_ (rdl s 16) i
  rw [at_fill s 16 i hi, at_rdl]
theorem fill_set (s : ByteArray) (k : Nat) (hk : k < 16) : (fill s k).set k (rd s (4 * k)) = fill s (k + 1) :=
  ext16 (by rw [List.length_set]; exact fill_len s k) (fill_len s _) fun i hi => by
    rw [at_set _ (fill_len s k) _ _ _ hk, at_fill s k i hi, at_fill s (k + 1) i hi]
    by_cases e : i = k
    · rw [if_pos e, if_pos (by omega), e]
    · rw [if_neg e]
      by_cases e2 : i < k
      · rw [if_pos e2, if_pos (by omega)]
      · rw [if_neg e2, if_neg (by omega)]
theorem byt_extract (s : ByteArray) (p i n : Nat) (hi : i < n) : byt (s.extract p (p + n)) i = byt s (p + i) := by
  unfold byt
  rw [ByteArray.data_extract, Array.toList_extract, List.getD_eq_getElem?_getD, List.getD_eq_getElem?_getD]
  simp [hi]
theorem pr_inj {a b : List Int} (oka : okR a) (okb : okR b) (h : str (pr a) = str (pr b)) : a = b := by
  rw [← rdr_pr a oka, h, rdr_pr b okb]
end Go.Proofs.Ytfmlefadifpocaa.R
namespace Go.Proofs.Ytfmlefadifpocaa.RB
open Go.ChangeShapes Go.WideShapes Go.ChangeAt Go.RowKit
set_option linter.unusedVariables false

def enc (l : List Int) : Array Value := (l.map (Value.int .u32)).toArray
theorem enc_size {l : List Int} (h : l.length = 16) : (enc l).size = 16 := by simp [enc, h]
theorem enc_get {l : List Int} (h : l.length = 16) (i : Nat) (hi : i < 16) : (enc l)[i]? = some (.int .u32 (R.at_ l i)) := by
  simp [enc, R.at_, List.getD_eq_getElem?_getD, List.getElem?_eq_getElem (show i < l.length by omega)]
theorem enc_set (l : List Int) (i : Nat) (v : Int) : (enc l).setIfInBounds i (.int .u32 v) = enc (l.set i v) := by
  apply Array.toList_inj.1
  simp [enc, List.map_set]
theorem enc_one (l : List Int) : (enc l).all (·.oneCell') = true := by
  rw [Array.all_eq_true_iff_forall_mem]
  intro v hv
  simp [enc] at hv
  obtain ⟨x, _, rfl⟩ := hv
  rfl
theorem enc_inj {l m : List Int} (h : enc l = enc m) : l = m := by
  have := congrArg Array.toList h
  simp only [enc] at this
  exact List.map_inj_right (f := Value.int .u32) (fun a b e => by injection e) |>.1 this
theorem info24 : (Try.prog.info? 75).map (fun i => (i.zero, i.size, i.bytes)) = some (some (.agg (enc R.zero)), 16, 64) := by kernel_rfl
theorem size24 : (Try.prog.info? 75).map (·.size) = some 16 := by kernel_rfl

theorem parts (a : Int) (h0 : 0 ≤ a) (h1 : a < 18446744073709551616) : bits .or .u64 (a / 4294967296 * 4294967296) (a % 4294967296) = a := by
  obtain ⟨n, rfl⟩ := Int.eq_ofNat_of_zero_le h0
  rw [u64_or _ _ (by omega) (by omega) (by omega) (by omega)]
  have e1 : ((n : Int) / 4294967296 * 4294967296).toNat = (n / 4294967296) <<< 32 := by rw [Nat.shiftLeft_eq]; omega
  have e2 : ((n : Int) % 4294967296).toNat = n % 4294967296 := by omega
  rw [e1, e2, ← Nat.shiftLeft_add_eq_or_of_lt (by omega : n % 4294967296 < 2 ^ 32), Nat.shiftLeft_eq]
  omega
theorem join_or (a b : Int) (ha : 0 ≤ a ∧ a < 4294967296) (hb : 0 ≤ b ∧ b < 4294967296) : bits .or .u64 (b * 4294967296) a = a + 4294967296 * b := by
  have := parts (a + 4294967296 * b) (by omega) (by omega)
  rw [show (a + 4294967296 * b) / 4294967296 = b by omega, show (a + 4294967296 * b) % 4294967296 = a by omega] at this
  exact this
end Go.Proofs.Ytfmlefadifpocaa.RB
namespace Go.Proofs.Ytfmlefadifpocaa.RB
open Go.ChangeShapes Go.WideShapes Go.ChangeAt Go.RowKit
set_option linter.unusedVariables false

theorem below_drawn {B : Nat} {a w : World} (h : Below B a w) (n : Nat) : Below B a (w.drewN n) := ⟨h.os, h.tape, h.output, h.size, h.block⟩
theorem bkeep {W w' : World} (h : Below W.heap.size W w') : (∀ b o, b < W.heap.size → w'.cell? ⟨b, o, none⟩ = W.cell? ⟨b, o, none⟩) ∧ Below W.heap.size W w' :=
  ⟨fun b o hb => h.cell (p := ⟨b, o, none⟩) hb, h⟩

set_option maxRecDepth 1000000 in
theorem load_any (l : List Int) (ok : R.okR l) (n : Int) (h : 0 ≤ n ∧ n < 4294967296) (w : World) :
    Calls Try.prog 62 #[.agg (enc l), .int .u32 n] w fun e w' => e = .returned (.tuple #[.int .u32 (R.load l n), .bool (R.isL n)]) ∧ Below w.heap.size w w' := by
  have hB : ∀ o, Below w.heap.size w (w.alloc o) := fun o => (Below.refl _ w).alloc (Nat.le_refl _) o
  have HB : Hid (∀ o, Below w.heap.size w (w.alloc o)) := hB
  clear hB
  by_cases h4 : n % 4 = 0
  · have d4 : (n % 4 != 0) = false := by simp [h4]
    by_cases h6 : 64 ≤ n
    · have d6 : decide (64 ≤ n) = true := decide_eq_true h6
      have HP : Hid (R.load l n = 0 ∧ R.isL n = false) := by
        have : R.isL n = false := decide_eq_false (by omega)
        exact ⟨by unfold R.load; rw [this]; rfl, this⟩
      clear h6 h4
      go_enter Try.func62, Try.ntmps62
      go_wp2
      go_ret2
      exact ⟨by rw [HP.out.1, HP.out.2]; rfl, HB.out _⟩
    · have d6 : decide (64 ≤ n) = false := decide_eq_false h6
      obtain ⟨j, rfl⟩ : ∃ j : Nat, n = 4 * (j : Int) := ⟨(n / 4).toNat, by omega⟩
      have hj : j < 16 := by omega
      have HP : Hid (R.load l (4 * (j : Int)) = R.at_ l j ∧ R.isL (4 * (j : Int)) = true) := by
        have : R.isL (4 * (j : Int)) = true := decide_eq_true (by omega)
        exact ⟨by unfold R.load; rw [this, show (4 * (j : Int) / 4).toNat = j by omega]; rfl, this⟩
      have hg := enc_get ok.1 j hj
      have HL : Hid ((enc l).size = 16) := enc_size ok.1
      have e4 : 4 * (j : Int) / 4 = j := by omega
      have hlt : (j : Int) < 16 := by omega
      obtain ⟨c, hc⟩ : ∃ c, enc l = c := ⟨_, rfl⟩
      rw [hc] at hg ⊢
      clear hc h4 h6
      go_enter Try.func62, Try.ntmps62
      go_wp2
      go_ret2
      exact ⟨by rw [HP.out.1, HP.out.2]; rfl, HB.out _⟩
  · have d4 : (n % 4 != 0) = true := by simp [h4]
    have HP : Hid (R.load l n = 0 ∧ R.isL n = false) := by
      have : R.isL n = false := decide_eq_false (by omega)
      exact ⟨by unfold R.load; rw [this]; rfl, this⟩
    clear h4
    go_enter Try.func62, Try.ntmps62
    go_wp2
    go_ret2
    exact ⟨by rw [HP.out.1, HP.out.2]; rfl, HB.out _⟩

end Go.Proofs.Ytfmlefadifpocaa.RB
namespace Go.Proofs.Ytfmlefadifpocaa.B
open Go.ChangeShapes Go.WideShapes Go.ChangeAt Go.RowKit
set_option linter.unusedVariables false
theorem hid {p : Prop} (h : p) : Hid p := h
theorem stp {w a b : World} (h : Hid (Below w.heap.size w a)) (h' : Below a.heap.size a b) : Hid (Below w.heap.size w b) := h.out.trans (h'.mono h.out.size)
theorem al (w : World) (o : Obj) : Below w.heap.size w (w.alloc o) := (Below.refl _ _).alloc (Nat.le_refl _) _
theorem al_stp {w a b : World} {o : Obj} (h : Hid (Below w.heap.size w a)) (h' : Below (a.alloc o).heap.size (a.alloc o) b) : Hid (Below w.heap.size w b) := stp (stp h (al a o)) h'
/-- an instruction lies in a block of its own -/
def At (W : World) (b : Nat) (c t f k : Int) : Prop := W.heap[b]? = some (.cells #[.int .u16 c, .int .u8 t, .int .u8 f, .int .u32 k] 38 (0, 0))
theorem At.lt {W : World} {b : Nat} {c t f k : Int} (h : At W b c t f k) : b < W.heap.size := by
  rcases Nat.lt_or_ge b W.heap.size with h' | h'
  · exact h'
  · unfold At at h; rw [Array.getElem?_eq_none h'] at h; cases h
theorem At.below {W W' : World} {b : Nat} {c t f k : Int} (h : At W b c t f k) (hb : Below W.heap.size W W') : At W' b c t f k := by
  have := hb.block b h.lt
  unfold At at *
  rw [this]; exact h
theorem At.cells {W : World} {b : Nat} {c t f k : Int} (h : At W b c t f k) : W.cell? ⟨b, 0, none⟩ = some (.int .u16 c) ∧ W.cell? ⟨b, 1, none⟩ = some (.int .u8 t) ∧ W.cell? ⟨b, 2, none⟩ = some (.int .u8 f) ∧ W.cell? ⟨b, 3, none⟩ = some (.int .u32 k) ∧ ∀ j, W.frozen? ⟨b, j, none⟩ = false := by
  unfold At at h
  refine ⟨by simp [World.cell?, h], by simp [World.cell?, h], by simp [World.cell?, h], by simp [World.cell?, h], fun j => by simp [World.frozen?, h]⟩
theorem At.new (W : World) (c t f k : Int) : At (W.alloc (.cells #[.int .u16 c, .int .u8 t, .int .u8 f, .int .u32 k] 38)) W.heap.size c t f k := by
  unfold At; exact World.alloc_heap_new W _
theorem At.alloc {W : World} {b : Nat} {c t f k : Int} (h : At W b c t f k) (o : Obj) : At (W.alloc o) b c t f k := h.below ((Below.refl _ _).alloc (Nat.le_refl _) _)

def put4 (W : World) (b : Nat) (c t f k : Int) : World := (((W.setCell ⟨b, 0, none⟩ (.int .u16 c)).setCell ⟨b, 1, none⟩ (.int .u8 t)).setCell ⟨b, 2, none⟩ (.int .u8 f)).setCell ⟨b, 3, none⟩ (.int .u32 k)
theorem set_cells {W : World} {b j : Nat} {cs : Array Value} {T : TypeId} {fr : Nat × Nat} (v : Value) (h : W.heap[b]? = some (.cells cs T fr)) : (W.setCell ⟨b, j, none⟩ v).heap[b]? = some (.cells (cs.setIfInBounds j v) T fr) := by
  simp [World.setCell, Array.getElem?_modify, h]
theorem At.set1 {W : World} {b : Nat} {c t f k : Int} (t' : Int) (h : At W b c t f k) : At (W.setCell ⟨b, 1, none⟩ (.int .u8 t')) b c t' f k := set_cells _ h
theorem At.set2 {W : World} {b : Nat} {c t f k : Int} (f' : Int) (h : At W b c t f k) : At (W.setCell ⟨b, 2, none⟩ (.int .u8 f')) b c t f' k := set_cells _ h
theorem At.set3 {W : World} {b : Nat} {c t f k : Int} (k' : Int) (h : At W b c t f k) : At (W.setCell ⟨b, 3, none⟩ (.int .u32 k')) b c t f k' := set_cells _ h
theorem At.put {W : World} {b : Nat} {c t f k : Int} (c' t' f' k' : Int) (h : At W b c t f k) : At (put4 W b c' t' f' k') b c' t' f' k' := by
  have h0 : (W.setCell ⟨b, 0, none⟩ (.int .u16 c')).heap[b]? = some (.cells #[.int .u16 c', .int .u8 t, .int .u8 f, .int .u32 k] 38 (0, 0)) := set_cells _ h
  exact At.set3 k' (At.set2 f' (At.set1 t' h0))
theorem At.off {W : World} {b b' j : Nat} {c t f k : Int} {v : Value} (h : At W b c t f k) (hne : b ≠ b') : At (W.setCell ⟨b', j, none⟩ v) b c t f k := by
  unfold At at *
  rw [Below.heap_setCell _ _ _ _ hne]; exact h
theorem put_below {w W : World} {b : Nat} {c t f k : Int} (h : Below w.heap.size w W) (hb : w.heap.size ≤ b) : Below w.heap.size w (put4 W b c t f k) :=
  (((h.setCell hb _).setCell hb _).setCell hb _).setCell hb _
end Go.Proofs.Ytfmlefadifpocaa.B
