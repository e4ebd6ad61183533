import Derived.Test.YtodgobapgmhgdaaDoorSc
namespace Go.Proofs.YtodgobapgmhgdaaDoor
open Go.ChangeShapes Go.WideShapes Go.ChangeAt Go.RowKit
set_option linter.unusedVariables false

/-- While the document writes a word: the instruction's box, and what is known of its op. -/
structure Se (w wr : World) (bk : Nat) (op d a b n : Int) (K : Array Value) : Prop where
  kp : Kp w wr
  gi : wr.heap[w.heap.size]? = some (.cells #[.int .i64 op, .int .u8 d, .int .u8 a, .int .u8 b, .int .i32 n] 24 (0, 0))
  gk : wr.heap[bk]? = some (.cells K 66 (0, 0))
theorem Se.call {w wr V : World} {bk : Nat} {op d a b n : Int} {K : Array Value} (h : Se w wr bk op d a b n K) (k : Kp wr V) : Se w V bk op d a b n K := ⟨Kp.trans h.kp k, Kp.heap k h.gi, Kp.heap k h.gk⟩
theorem w64 (x : Int) (h0 : -4611686018427387904 ≤ x) (h1 : x ≤ 4611686018427387904) : IntKind.i64.wrap x = x := by rw [IntKind.wrap_i64]; omega
theorem w64' (x : Int) (h0 : -4611686018427387904 ≤ x) (h1 : x ≤ 4611686018427387904) : wrap64 x = x := by simp only [wrap64]; omega
end Go.Proofs.YtodgobapgmhgdaaDoor
