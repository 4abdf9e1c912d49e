/-
  Plain mathematics of an instruction's eight bytes: an instruction as four numbers, its bytes, the text of a list of bytes.
-/
namespace Go.Proofs.Ytcojhfppipdfoab.M

abbrev I := Int × Int × Int × Int
def okI (i : I) : Prop := (0 ≤ i.1 ∧ i.1 < 65536) ∧ (0 ≤ i.2.1 ∧ i.2.1 < 256) ∧ (0 ≤ i.2.2.1 ∧ i.2.2.1 < 256) ∧ (0 ≤ i.2.2.2 ∧ i.2.2.2 < 4294967296)
def by8 (i : I) : List Int := [i.1 % 256, i.1 / 256, i.2.1, i.2.2.1, i.2.2.2 % 256, i.2.2.2 / 256 % 256, i.2.2.2 / 65536 % 256, i.2.2.2 / 16777216]
def pr (l : List I) : List Int := l.flatMap by8
def str (ns : List Int) : ByteArray := ns.foldl (fun r n => r.push (UInt8.ofNat n.toNat)) ByteArray.empty

theorem by8_len (i : I) : (by8 i).length = 8 := rfl
theorem pr_nil : pr [] = [] := rfl
theorem pr_snoc (l : List I) (i : I) : pr (l ++ [i]) = pr l ++ by8 i := by simp [pr]
theorem pr_append (l m : List I) : pr (l ++ m) = pr l ++ pr m := by simp [pr]
theorem pr_len (l : List I) : (pr l).length = 8 * l.length := by
  induction l with
  | nil => rfl
  | cons a l ih => rw [show pr (a :: l) = by8 a ++ pr l from rfl, List.length_append, ih, by8_len, List.length_cons]; omega

theorem foldl_push (ns : List Int) (s : ByteArray) : (ns.foldl (fun r n => r.push (UInt8.ofNat n.toNat)) s).data.toList = s.data.toList ++ ns.map fun n => UInt8.ofNat n.toNat := by
  induction ns generalizing s with
  | nil => simp
  | cons n ns ih => rw [List.foldl_cons, ih]; simp [ByteArray.push]
theorem str_list (ns : List Int) : (str ns).data.toList = ns.map fun n => UInt8.ofNat n.toNat := by
  unfold str; rw [foldl_push]; simp
theorem bytes_ext {a b : ByteArray} (h : a.data.toList = b.data.toList) : a = b := by
  cases a; cases b; simp only [ByteArray.mk.injEq]; exact Array.toList_inj.1 h
theorem str_size (ns : List Int) : (str ns).size = ns.length := by
  show (str ns).data.size = _
  rw [← Array.length_toList, str_list, List.length_map]
theorem str_append (a b : List Int) : str a ++ str b = str (a ++ b) := by
  apply bytes_ext
  simp [str_list]

/-- the byte at place i of a text -/
def at_ (s : ByteArray) (i : Nat) : Int := ((s.data.toList.getD i 0).toNat : Int)
theorem at_bd (s : ByteArray) (i : Nat) : 0 ≤ at_ s i ∧ at_ s i < 256 := by
  unfold at_
  have := (s.data.toList.getD i 0).toNat_lt
  omega
theorem at_get (s : ByteArray) (i : Nat) (h : i < s.size) : ((s[i]).toNat : Int) = at_ s i := by
  unfold at_
  rw [List.getD_eq_getElem?_getD, List.getElem?_eq_getElem (by simpa using h)]
  rfl

/-- the instruction whose eight bytes begin at place p -/
def rd (s : ByteArray) (p : Nat) : I :=
  (at_ s p + 256 * at_ s (p + 1), at_ s (p + 2), at_ s (p + 3), at_ s (p + 4) + 256 * at_ s (p + 5) + 65536 * at_ s (p + 6) + 16777216 * at_ s (p + 7))
def rdl (s : ByteArray) (n : Nat) : List I := (List.range n).map fun j => rd s (8 * j)
theorem rdl_succ (s : ByteArray) (n : Nat) : rdl s (n + 1) = rdl s n ++ [rd s (8 * n)] := by simp [rdl, List.range_succ]
theorem rdl_len (s : ByteArray) (n : Nat) : (rdl s n).length = n := by simp [rdl]
theorem rd_ok (s : ByteArray) (p : Nat) : okI (rd s p) := by
  have h0 := at_bd s p; have h1 := at_bd s (p + 1); have h2 := at_bd s (p + 2); have h3 := at_bd s (p + 3)
  have h4 := at_bd s (p + 4); have h5 := at_bd s (p + 5); have h6 := at_bd s (p + 6); have h7 := at_bd s (p + 7)
  unfold okI rd; simp only; omega
theorem by8_rd (s : ByteArray) (p : Nat) : by8 (rd s p) = [at_ s p, at_ s (p + 1), at_ s (p + 2), at_ s (p + 3), at_ s (p + 4), at_ s (p + 5), at_ s (p + 6), at_ s (p + 7)] := by
  have h0 := at_bd s p; have h1 := at_bd s (p + 1); have h2 := at_bd s (p + 2); have h3 := at_bd s (p + 3)
  have h4 := at_bd s (p + 4); have h5 := at_bd s (p + 5); have h6 := at_bd s (p + 6); have h7 := at_bd s (p + 7)
  unfold by8 rd
  simp only [List.cons.injEq, and_true, true_and]
  omega
theorem pr_rdl (s : ByteArray) (n : Nat) : pr (rdl s n) = (List.range (8 * n)).map (at_ s) := by
  induction n with
  | zero => rfl
  | succ n ih =>
    rw [rdl_succ, pr_snoc, ih, by8_rd]
    rw [show 8 * (n + 1) = 8 * n + 8 from by omega]
    simp [List.range_succ]
theorem ofNat_at (s : ByteArray) (i : Nat) : UInt8.ofNat (at_ s i).toNat = s.data.toList.getD i 0 := by
  unfold at_; simp
theorem str_pr_rdl (s : ByteArray) (n : Nat) (h : s.size = 8 * n) : str (pr (rdl s n)) = s := by
  apply bytes_ext
  rw [str_list, pr_rdl, List.map_map]
  apply List.ext_getElem
  · simp; exact h.symm
  · intro i h1 h2
    simp only [List.getElem_map, List.getElem_range, Function.comp]
    rw [ofNat_at, List.getD_eq_getElem?_getD, List.getElem?_eq_getElem h2]; rfl

theorem at_str (ns : List Int) (i : Nat) (hb : ∀ x ∈ ns, 0 ≤ x ∧ x < 256) : at_ (str ns) i = ns.getD i 0 := by
  unfold at_
  rw [str_list, List.getD_eq_getElem?_getD, List.getD_eq_getElem?_getD, List.getElem?_map]
  rcases h : ns[i]? with _ | x
  · rfl
  · have := hb x (List.mem_of_getElem? h)
    simp; omega
theorem by8_bd {i : I} (h : okI i) : ∀ x ∈ by8 i, 0 ≤ x ∧ x < 256 := by
  obtain ⟨c, t, f, k⟩ := i
  unfold okI at h; simp only at h
  unfold by8; simp only
  intro x hx
  simp only [List.mem_cons, List.not_mem_nil, or_false] at hx
  omega
theorem pr_bd {l : List I} (h : ∀ i ∈ l, okI i) : ∀ x ∈ pr l, 0 ≤ x ∧ x < 256 := by
  intro x hx
  obtain ⟨i, hi, hx⟩ := List.mem_flatMap.1 hx
  exact by8_bd (h i hi) x hx
theorem rd_by8 {ns : List Int} {p : Nat} {i : I} (h : okI i) (hb : ∀ x ∈ ns, 0 ≤ x ∧ x < 256) (e : ∀ j, j < 8 → ns.getD (p + j) 0 = (by8 i).getD j 0) : rd (str ns) p = i := by
  obtain ⟨c, t, f, k⟩ := i
  unfold okI at h; simp only at h
  unfold rd
  simp only [at_str ns _ hb]
  have e0 := e 0 (by omega); have e1 := e 1 (by omega); have e2 := e 2 (by omega); have e3 := e 3 (by omega)
  have e4 := e 4 (by omega); have e5 := e 5 (by omega); have e6 := e 6 (by omega); have e7 := e 7 (by omega)
  have k1 : k / 65536 = k / 256 / 256 := by omega
  have k2 : k / 16777216 = k / 256 / 256 / 256 := by omega
  simp [by8] at e0 e1 e2 e3 e4 e5 e6 e7
  simp only [List.getD_eq_getElem?_getD, e0, e1, e2, e3, e4, e5, e6, e7, Prod.mk.injEq, k1, k2]
  refine ⟨by omega, trivial, trivial, ?_⟩
  have d0 := Int.mul_ediv_add_emod k 256
  have d1 := Int.mul_ediv_add_emod (k / 256) 256
  have d2 := Int.mul_ediv_add_emod (k / 256 / 256) 256
  clear e0 e1 e2 e3 e4 e5 e6 e7 k1 k2
  generalize k / 256 / 256 / 256 = q at *
  generalize k / 256 / 256 % 256 = q1 at *
  generalize k / 256 / 256 = q2 at *
  generalize k / 256 % 256 = q3 at *
  generalize k / 256 = q4 at *
  omega
theorem pr_get (l : List I) (j : Nat) (hj : j < l.length) (i : Nat) (hi : i < 8) : (pr l).getD (8 * j + i) 0 = (by8 (l.getD j (0, 0, 0, 0))).getD i 0 := by
  induction l generalizing j with
  | nil => simp at hj
  | cons a l ih =>
    rw [show pr (a :: l) = by8 a ++ pr l from rfl]
    cases j with
    | zero => simp [List.getD_eq_getElem?_getD, List.getElem?_append, by8_len, hi]
    | succ j =>
      have := ih j (by simpa using hj)
      rw [List.getD_eq_getElem?_getD] at this ⊢
      rw [List.getElem?_append_right (by rw [by8_len]; omega), by8_len, show 8 * (j + 1) + i - 8 = 8 * j + i from by omega, this]
      simp
/-- the first n instructions of the bytes of a program, and whatever else, are its own -/
theorem rdl_pr (l : List I) (n : Nat) (m : Nat) (hl : ∀ i ∈ l, okI i) (hn : n ≤ l.length) (hm : 8 * n ≤ m) : rdl (str ((pr l).take m)) n = l.take n := by
  apply List.ext_getElem
  · simp [rdl_len]; omega
  · intro j h1 h2
    rw [rdl_len] at h1
    simp only [rdl, List.getElem_map, List.getElem_range, List.getElem_take]
    have hjl : j < l.length := by omega
    refine rd_by8 (hl _ (List.getElem_mem hjl)) (fun x hx => pr_bd hl x (List.mem_of_mem_take hx)) fun i hi => ?_
    have := pr_get l j hjl i hi
    rw [List.getD_eq_getElem?_getD, List.getElem?_take_of_lt (by omega), ← List.getD_eq_getElem?_getD, this]
    have e9 : l.getD j (0, 0, 0, 0) = l[j] := by rw [List.getD_eq_getElem?_getD, List.getElem?_eq_getElem hjl]; rfl
    rw [e9]
theorem rdl_pr_all (l : List I) (hl : ∀ i ∈ l, okI i) : rdl (str (pr l)) l.length = l := by
  have := rdl_pr l l.length (pr l).length hl (Nat.le_refl _) (by rw [pr_len]; exact Nat.le_refl _)
  rwa [List.take_length, List.take_length] at this
theorem str_pr_inj {l m : List I} (hl : ∀ i ∈ l, okI i) (hm : ∀ i ∈ m, okI i) : (str (pr l) = str (pr m)) ↔ l = m := by
  constructor
  · intro h
    have e := congrArg ByteArray.size h
    rw [str_size, str_size, pr_len, pr_len] at e
    have := rdl_pr_all l hl
    rw [h, show l.length = m.length from by omega, rdl_pr_all m hm] at this
    exact this.symm
  · intro h; rw [h]
theorem rdl_ok (s : ByteArray) (n : Nat) : ∀ i ∈ rdl s n, okI i := by
  intro i hi
  obtain ⟨j, _, rfl⟩ := List.mem_map.1 hi
  exact rd_ok s _
end Go.Proofs.Ytcojhfppipdfoab.M
