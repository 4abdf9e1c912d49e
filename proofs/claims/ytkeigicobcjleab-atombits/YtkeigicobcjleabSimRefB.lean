/-
  The reference's Make and right of layer 12, as walks over the Go text: first, numbers on the right.
-/
import Derived.Test.YtkeigicobcjleabSimRefA
namespace Go.Proofs.Ytkeigicobcjleab.TB
open Go.ChangeShapes Go.WideShapes Go.ChangeAt Go.RowKit
open Go.Sort hiding Below
set_option linter.unusedVariables false
set_option maxRecDepth 100000

/-- two nodes in blocks of their own -/
theorem two_boxes (w : World) (x y : TM.N) : NAt ((w.alloc (.cells #[.int .i64 x.1, .int .i64 x.2.1, .int .i64 x.2.2.1, .int .u32 x.2.2.2] 28)).alloc (.cells #[.int .i64 y.1, .int .i64 y.2.1, .int .i64 y.2.2.1, .int .u32 y.2.2.2] 28)) w.heap.size x ∧
    NAt ((w.alloc (.cells #[.int .i64 x.1, .int .i64 x.2.1, .int .i64 x.2.2.1, .int .u32 x.2.2.2] 28)).alloc (.cells #[.int .i64 y.1, .int .i64 y.2.1, .int .i64 y.2.2.1, .int .u32 y.2.2.2] 28)) (w.heap.size + 1) y := by
  constructor
  · exact (NAt.new w x.1 x.2.1 x.2.2.1 x.2.2.2).alloc _
  · have h := NAt.new (w.alloc (.cells #[.int .i64 x.1, .int .i64 x.2.1, .int .i64 x.2.2.1, .int .u32 x.2.2.2] 28)) y.1 y.2.1 y.2.2.1 y.2.2.2
    have e : (w.alloc (.cells #[.int .i64 x.1, .int .i64 x.2.1, .int .i64 x.2.2.1, .int .u32 x.2.2.2] 28)).heap.size = w.heap.size + 1 := by simp
    rw [e] at h
    exact h

end Go.Proofs.Ytkeigicobcjleab.TB
