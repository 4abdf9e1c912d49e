/-
  The contracts of Same and Print, for slices whose length is told apart.
-/
import Derived.Test.YteoamndpphpegaaInsAwake
import Derived.Test.YteoamndpphpegaaInsArgs
namespace Go.Proofs.Yteoamndpphpegaa.B
open Go.ChangeShapes Go.WideShapes Go.ChangeAt Go.RowKit

theorem rsame_len (a b : Option Addr) (l m : List M.I) (na nb ca cb : Nat) (w : World) (ha : l.length = na) (hb : m.length = nb) (hl : Lies w a l) (hm : Lies w b m) (bl : na ≤ 65536) (bm : nb ≤ 65536) (q : Bool) (hq : decide (l = m) = q) :
    Calls Try.prog 11 #[.slice a na ca, .slice b nb cb] w fun e w' => e = .returned (.bool q) ∧ ∃ n, w' = w.drewN n := by
  subst ha hb hq
  exact rsame_any a b l m ca cb w hl hm bl bm
theorem same_len (a b : Option Addr) (l m : List M.I) (na nb ca cb : Nat) (w : World) (ha : l.length = na) (hb : m.length = nb) (hl : Lies w a l) (hm : Lies w b m) (bl : na ≤ 65536) (bm : nb ≤ 65536) (q : Bool) (hq : decide (l = m) = q) :
    Calls Try.prog 14 #[.slice a na ca, .slice b nb cb] w fun e w' => e = .returned (.bool q) ∧ ∃ n, w' = w.drewN n := by
  subst ha hb hq
  exact same_any a b l m ca cb w hl hm bl bm
theorem print_len (a : Option Addr) (l : List M.I) (n ca : Nat) (w : World) (hn : l.length = n) (hl : Lies w a l) (ok : ∀ i ∈ l, M.okI i) (h0 : 0 < n) (h1 : n ≤ 4096) (s : ByteArray) (hs : M.str (M.pr l) = s) :
    Calls Try.prog 12 #[.slice a n ca] w fun e w' => e = .returned (.tuple #[.string s, .int .i64 0]) ∧ Below w.heap.size w w' := by
  subst hn hs
  exact print_any a l ca w hl ok h0 h1
theorem rprint_len (a : Option Addr) (l : List M.I) (n ca : Nat) (w : World) (hn : l.length = n) (hl : Lies w a l) (ok : ∀ i ∈ l, M.okI i) (h0 : 0 < n) (h1 : n ≤ 4096) (s : ByteArray) (hs : M.str (M.pr l) = s) :
    Calls Try.prog 13 #[.slice a n ca] w fun e w' => e = .returned (.tuple #[.string s, .int .i64 0]) ∧ Below w.heap.size w w' := by
  subst hn hs
  exact rprint_any a l ca w hl ok h0 h1
/-- Read of whole instructions: a list of them, which lies behind. -/
theorem read_len (s : ByteArray) (n : Nat) (w : World) (h : s.size = 8 * n) (h0 : 0 < n) (h1 : n ≤ 4096) (l : List M.I) (hl : M.rdl s n = l) :
    Calls Try.prog 9 #[.string s] w fun e w' => ∃ g cap, e = .returned (.tuple #[.slice (some ⟨g, 0, none⟩) n cap, .int .i64 0]) ∧ Lies w' (some ⟨g, 0, none⟩) l ∧ Below w.heap.size w w' := by
  subst hl
  refine (read_all s n w h h0 h1).mono ?_
  rintro e w' ⟨g, cap, he, hown, hB⟩
  exact ⟨g, cap, he, lies_of_own hown (M.rdl_len s n), hB⟩
theorem rread_len (s : ByteArray) (n : Nat) (w : World) (h : s.size = 8 * n) (h0 : 0 < n) (h1 : n ≤ 4096) (l : List M.I) (hl : M.rdl s n = l) :
    Calls Try.prog 10 #[.string s] w fun e w' => ∃ g cap, e = .returned (.tuple #[.slice (some ⟨g, 0, none⟩) n cap, .int .i64 0]) ∧ Lies w' (some ⟨g, 0, none⟩) l ∧ Below w.heap.size w w' := by
  subst hl
  refine (rread_all s n w h h0 h1).mono ?_
  rintro e w' ⟨g, cap, he, hown, hB⟩
  exact ⟨g, cap, he, lies_of_own hown (M.rdl_len s n), hB⟩
end Go.Proofs.Yteoamndpphpegaa.B
