/-
  The few answers that the document fixes, as a walk over the Go text: they are as it says.
-/
import Derived.Test.YtahaooghebmhnaaHR
import Derived.Test.YtahaooghebmhnaaH4
namespace Go.Proofs.Ytahaooghebmhnaa.B
open Go.ChangeShapes Go.WideShapes Go.ChangeAt Go.RowKit
open Go.Sort hiding Below
set_option linter.unusedVariables false

def r6 : M.I := (6, 0, 0, 0)
def l1 : List M.I := [(96, 0, 0, 0), r6]
def l2 : List M.I := [(2, 0, 0, 3), (96, 0, 0, 3), r6]
def l3 : List M.I := [r6, (32, 0, 0, 2), r6]
def l4 : List M.I := [r6, (0, 0, 0, 0)]
def l6 : List M.I := [(5, 0, 0, 4294967295), r6]
def l7 : List M.I := [(2, 0, 0, 3), r6]
def l8 : List M.I := [r6]
theorem aw1 : M.check l1 = (0, 10) := by decide +kernel
theorem aw2 : M.check l2 = (0, 0) := by decide +kernel
theorem aw3 : M.check l3 = (1, 11) := by decide +kernel
theorem aw4 : M.check l4 = (1, 12) := by decide +kernel
theorem aw5 : M.check [] = (0, 4) := by decide +kernel
theorem aw6 : M.check l6 = (0, 7) := by decide +kernel
theorem aw7 : (M.wa l7).2 = 0 ∧ M.wr l7 0 = 0 ∧ M.wr l7 1 = 8 := by decide +kernel
theorem aw8 : M.rightB l8 = true := by decide +kernel
theorem okl : (∀ i ∈ l1, M.okI i) ∧ (∀ i ∈ l2, M.okI i) ∧ (∀ i ∈ l3, M.okI i) ∧ (∀ i ∈ l4, M.okI i) ∧ (∀ i ∈ l6, M.okI i) ∧ (∀ i ∈ l7, M.okI i) ∧ (∀ i ∈ l8, M.okI i) := by
  unfold M.okI; decide
theorem lies_lit (w : World) (l : List M.I) (n : Nat) (hn : l.length = n) (hm : n ≤ maxLen) : Lies (w.alloc (.cells (i4s l).toArray 46)) (some ⟨w.heap.size, 0, none⟩) l :=
  lies_of_own (n := n) (cap := n) (World.ownsRow_lit (base := w.heap.size) (e := 46) (size := 4) w (i4s l).toArray n (Nat.le_refl _) hm (by simp [i4s_len, hn])) hn

theorem results_one {fn : Func} (h : fn.results = #[.cell 0 46]) (tmps : Array Value) (w : World) {b : Nat} {c t f k : Int} (hp : tmps[0]?.getD undef = .pointer (some ⟨b, 0, none⟩)) (hA : At w b c t f k) :
    (results fn tmps).run Try.prog w = .ok (.agg #[.int .u16 c, .int .u8 t, .int .u8 f, .int .u32 k]) w := by
  obtain ⟨a0, a1, a2, a3, a4⟩ := hA.cells
  simp [results, h, hp, go_sem, a0, a1, a2, a3]
theorem ck (g n : Nat) (l : List M.I) (hn : l.length = n) (hs : n ≤ 9223372036854775807) (ok : ∀ i ∈ l, M.okI i) (p : Nat) (e0 : Int) (hp : M.check l = (p, e0)) (w : World) (hl : Lies w (some ⟨g, 0, none⟩) l) :
    Calls Try.prog 32 #[.slice (some ⟨g, 0, none⟩) n n] w fun e w' => e = .returned (.tuple #[.int .i64 (p : Int), .int .i64 e0]) ∧ Below w.heap.size w w' := check_any _ n n l hn hs ok w hl p e0 hp

end Go.Proofs.Ytahaooghebmhnaa.B
