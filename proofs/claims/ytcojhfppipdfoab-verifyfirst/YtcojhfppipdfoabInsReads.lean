/-
  The program of a text's bytes, as walks over the Go text: instr.Read and the reference's.
-/
import Derived.Test.YtcojhfppipdfoabInsPrint
import Derived.Laws.Strings2
import Derived.Laws.Strings3
namespace Go.Proofs.Ytcojhfppipdfoab.B
open Go.ChangeShapes Go.WideShapes Go.ChangeAt Go.RowKit
set_option linter.unusedVariables false

def i4s (l : List M.I) : List Value := l.flatMap fun i => [.int .u16 i.1, .int .u8 i.2.1, .int .u8 i.2.2.1, .int .u32 i.2.2.2]
theorem i4s_snoc (l : List M.I) (i : M.I) : i4s (l ++ [i]) = i4s l ++ [.int .u16 i.1, .int .u8 i.2.1, .int .u8 i.2.2.1, .int .u32 i.2.2.2] := by simp [i4s]

theorem at_extract (s : ByteArray) (p q i : Nat) (h : p + i < q) (hq : q ≤ s.size) : M.at_ (s.extract p q) i = M.at_ s (p + i) := by
  unfold M.at_
  congr 2
  rw [List.getD_eq_getElem?_getD, List.getD_eq_getElem?_getD]
  congr 1
  have e : (s.extract p q).data = s.data.extract p q := ByteArray.data_extract
  rw [e, Array.getElem?_toList, Array.getElem?_toList, Array.getElem?_extract, if_pos (by have : s.data.size = s.size := rfl; omega)]
theorem rd_extract (s : ByteArray) (p : Nat) (h : p + 8 ≤ s.size) : M.rd (s.extract p (p + 8)) 0 = M.rd s p := by
  unfold M.rd
  rw [at_extract s p (p + 8) 0 (by omega) h, at_extract s p (p + 8) (0 + 1) (by omega) h, at_extract s p (p + 8) (0 + 2) (by omega) h, at_extract s p (p + 8) (0 + 3) (by omega) h,
    at_extract s p (p + 8) (0 + 4) (by omega) h, at_extract s p (p + 8) (0 + 5) (by omega) h, at_extract s p (p + 8) (0 + 6) (by omega) h, at_extract s p (p + 8) (0 + 7) (by omega) h]
  simp
theorem own_below {w w' : World} {base : Nat} {e : TypeId} {size : Nat} {v : Value} {n : Nat} {xs : List Value} (h : w.ownsRow base e size v n xs) (hb : Below w.heap.size w w') : w'.ownsRow base e size v n xs := by
  refine ⟨h.1, ?_⟩
  rcases h.2 with h' | ⟨g, cap, cur, h1, h2, h3, h4⟩
  · exact .inl h'
  · refine .inr ⟨g, cap, cur, h1, h2, ?_, h4⟩
    have hlt : g < w.heap.size := by
      rcases Nat.lt_or_ge g w.heap.size with a | a
      · exact a
      · rw [Array.getElem?_eq_none a] at h3; cases h3
    rw [hb.block g hlt]; exact h3
theorem news1 (w : World) (cs : Array Value) {t : TypeId} {l : List Value} (h : cs.toList = l) :
    ∀ (j : Nat) (u : Value), l[j]? = some u → (w.alloc (Obj.cells cs t)).cell? ((⟨w.heap.size, 0, none⟩ : Addr).add j) = some u := by
  subst h
  exact World.news_of_block (fr := (0, 0)) (t := t) (heap_alloc_new w (Obj.cells cs t))

end Go.Proofs.Ytcojhfppipdfoab.B
