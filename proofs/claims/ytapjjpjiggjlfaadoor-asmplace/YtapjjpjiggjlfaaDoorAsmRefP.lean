/-
  The instruction whose line it is, in the document's own words: the mathematics of it.
-/
import Derived.Test.YtapjjpjiggjlfaaDoorAsmRefW
namespace Go.Proofs.YtapjjpjiggjlfaaDoor.M
def rk (c : Int) (ws : List (List UInt8)) : Int := if hasK c = true ∧ 1 < ws.length then rv (ws.getD 1 []) else 0
def rat (c : Int) (ws : List (List UInt8)) : Nat := if hasK c = true ∧ 1 < ws.length then 2 else 1
def rt (c : Int) (ws : List (List UInt8)) : Int := if jif c = true ∧ rat c ws + 1 < ws.length then rv (ws.getD (rat c ws) []) % 256 else 0
def rf (c : Int) (ws : List (List UInt8)) : Int := if jif c = true ∧ rat c ws + 1 < ws.length then rv (ws.getD (rat c ws + 1) []) % 256 else 0
def rx (c : Int) (ws : List (List UInt8)) : I := (c, rt c ws, rf c ws, rk c ws)
theorem rx_ok {c : Int} (h0 : 0 ≤ c) (h1 : c < 65536) (ws : List (List UInt8)) : okI (rx c ws) := by
  have a := rv_bd (ws.getD 1 [])
  refine ⟨⟨h0, h1⟩, ?_, ?_, ?_⟩ <;> simp only [rx]
  · unfold rt; split <;> omega
  · unfold rf; split <;> omega
  · unfold rk; split <;> omega
theorem line_words {i : I} {l : List UInt8} (ok : okI i) (h : line i = (l, 0)) : words l = name i.1 :: ((if hasK i.1 then [num i.2.2.2.toNat] else []) ++ (if jif i.1 then [num i.2.1.toNat, num i.2.2.1.toNat] else [])) := by
  obtain ⟨c, t, f, k⟩ := i
  obtain ⟨⟨c0, c1⟩, ⟨t0, t1⟩, ⟨f0, f1⟩, ⟨k0, k1⟩⟩ := ok
  simp only at c0 c1 t0 t1 f0 f1 k0 k1
  unfold line at h
  simp only at h
  split at h
  · simp at h
  · rename_i hne
    split at h
    · simp at h
    · simp only [Prod.mk.injEq, and_true] at h
      have hno := fun b hb => (names_plain _ (name_mem hne) b hb).1
      simp only at hno
      have n1 := num_no (n := k.toNat) (by omega) (x := 32) (by decide)
      have n2 := num_no (n := t.toNat) (by omega) (x := 32) (by decide)
      have n3 := num_no (n := f.toNat) (by omega) (x := 32) (by decide)
      rw [← h]
      simp only
      cases hasK c <;> cases jif c <;> simp only [if_true, if_false, Bool.false_eq_true, List.append_nil, List.nil_append, List.cons_append]
      · exact words_one hno
      · rw [words_more hno, words_more n2, words_one n3]
      · rw [words_more hno, words_one n1]
      · rw [words_more hno, words_more n1, words_more n2, words_one n3]
theorem line_rx {i : I} {l : List UInt8} (ok : okI i) (h : line i = (l, 0)) : rx i.1 (words l) = i := by
  have hw := line_words ok h
  obtain ⟨c, t, f, k⟩ := i
  obtain ⟨⟨c0, c1⟩, ⟨t0, t1⟩, ⟨f0, f1⟩, ⟨k0, k1⟩⟩ := ok
  simp only at c0 c1 t0 t1 f0 f1 k0 k1 hw
  have v1 := rv_num k.toNat (by omega)
  have v2 := rv_num t.toNat (by omega)
  have v3 := rv_num f.toNat (by omega)
  have hz : hasK c = false → k = 0 := by
    intro e
    unfold line at h
    simp only at h
    split at h
    · simp at h
    · split at h
      · simp at h
      · rename_i hb
        by_cases hk : k = 0
        · exact hk
        · exact absurd (by simp [e, hk]) hb
  have hy : jif c = false → t = 0 ∧ f = 0 := by
    intro e
    unfold line at h
    simp only at h
    split at h
    · simp at h
    · split at h
      · simp at h
      · rename_i hb
        by_cases ht : t = 0
        · by_cases hf : f = 0
          · exact ⟨ht, hf⟩
          · exact absurd (by simp [e, hf]) hb
        · exact absurd (by simp [e, ht]) hb
  simp only [rx, rt, rf, rk, rat, hw]
  cases e1 : hasK c <;> cases e2 : jif c
  · have := hz e1; have := hy e2
    simp; omega
  · have := hz e1
    simp [v2, v3]; omega
  · have := hy e2
    simp [v1]; omega
  · simp [v1, v2, v3]; omega
theorem parse_rx {l : List UInt8} {c : Int} (hm : (bef 32 l, c) ∈ tbl) : parse l = if line (rx c (words l)) = (l, 0) then some (rx c (words l)) else none := by
  have hc := vals_small _ hm
  simp only at hc
  split
  · rename_i h
    exact line_parse (rx_ok hc.1 (by omega) _) h
  · rename_i h
    cases e : parse l with
    | none => rfl
    | some i =>
      exfalso
      obtain ⟨ok, hl⟩ := parse_line e
      have hw := line_words ok hl
      have hh := words_head l
      rw [hw] at hh
      simp only [List.getElem?_cons_zero, Option.some.injEq] at hh
      have e1 : i.1 = c := by
        have hne : name i.1 ≠ [] := by
          rw [hh]; exact keys_some _ hm
        have h1 := name_mem hne
        rw [hh] at h1
        have h2 := mem_find h1
        have h3 := mem_find hm
        rw [h2] at h3
        exact Option.some.inj h3
      have := line_rx ok hl
      rw [e1] at this
      rw [this] at h
      exact h hl
theorem parse_no {l : List UInt8} (h : ∀ j, j < 41 → nm j ≠ bef 32 l) : parse l = none := by
  cases e : find (bef 32 l) with
  | none => unfold parse; rw [e]
  | some c =>
    have hm := find_mem e
    have hc := mem_codes.2 ⟨_, hm⟩
    obtain ⟨j, hj, ej⟩ := List.mem_iff_getElem.1 hc
    have h41 : j < 41 := hj
    have e1 := nm_eq ⟨j, h41⟩
    have e2 := cd_get ⟨j, h41⟩
    simp only at e1 e2
    rw [List.getElem?_eq_getElem hj, ej] at e2
    have e3 := Option.some.inj e2
    rw [← e3, mem_name hm] at e1
    exact absurd e1 (h j h41)
theorem nm_tbl {j : Nat} (hj : j < 41) {a : List UInt8} (h : nm j = a) : (a, cd j) ∈ tbl := by
  have e1 := nm_eq ⟨j, hj⟩
  simp only at e1
  have e2 := cd_get ⟨j, hj⟩
  simp only at e2
  have hc : cd j ∈ codes := List.mem_of_getElem? e2
  have := name_mem (name_codes.2 hc)
  rw [← e1, h] at this
  exact this
end Go.Proofs.YtapjjpjiggjlfaaDoor.M
