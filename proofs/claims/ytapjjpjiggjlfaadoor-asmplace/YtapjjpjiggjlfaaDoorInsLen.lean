/-
  The contracts of Same and Print, for slices whose length is told apart.
-/
import Derived.Test.YtapjjpjiggjlfaaDoorInsAwake
import Derived.Test.YtapjjpjiggjlfaaDoorInsArgs
namespace Go.Proofs.YtapjjpjiggjlfaaDoor.B
open Go.ChangeShapes Go.WideShapes Go.ChangeAt Go.RowKit

theorem rsame_len (a b : Option Addr) (l m : List M.I) (na nb ca cb : Nat) (w : World) (ha : l.length = na) (hb : m.length = nb) (hl : Lies w a l) (hm : Lies w b m) (bl : na ≤ 65536) (bm : nb ≤ 65536) (q : Bool) (hq : decide (l = m) = q) :
    Calls Tryd.prog 16 #[.slice a na ca, .slice b nb cb] w fun e w' => e = .returned (.bool q) ∧ ∃ n, w' = w.drewN n := by
  subst ha hb hq
  exact rsame_any a b l m ca cb w hl hm bl bm
theorem print_len (a : Option Addr) (l : List M.I) (n ca : Nat) (w : World) (hn : l.length = n) (hl : Lies w a l) (ok : ∀ i ∈ l, M.okI i) (h0 : 0 < n) (h1 : n ≤ 4096) (s : ByteArray) (hs : M.str (M.pr l) = s) :
    Calls Tryd.prog 35 #[.slice a n ca] w fun e w' => e = .returned (.tuple #[.string s, .int .i64 0]) ∧ Below w.heap.size w w' := by
  subst hn hs
  exact print_any a l ca w hl ok h0 h1
end Go.Proofs.YtapjjpjiggjlfaaDoor.B
