import Derived.Test.YtkndlkcbhpfjoaaOe
namespace Go.Proofs.Ytkndlkcbhpfjoaa
open Go.ChangeShapes Go.WideShapes Go.ChangeAt Go.RowKit Go.Shelf
set_option linter.unusedVariables false
theorem build40A (w : World) : (Instr.build 40 #[(0, .int .i64 1), (1, .int .i64 5), (2, .int .i64 2)]).run Try.prog w = .ok (.agg (ocs oA).toArray) w := by
  kernel_rfl
theorem build40B (w : World) : (Instr.build 40 #[(0, .int .i64 2), (1, .int .i64 5)]).run Try.prog w = .ok (.agg (ocs oB).toArray) w := by
  kernel_rfl
theorem build40C (w : World) : (Instr.build 40 #[(0, .int .i64 4), (2, .int .i64 2)]).run Try.prog w = .ok (.agg (ocs oC).toArray) w := by
  kernel_rfl
theorem wpList_wanted {P : Program} {ops : Array Oper} {Q : Exit → Act → World → Prop} {a : Act} {w : World} {rest : List Oper} {o : Oper} (hw : Region.wanted o (yielded ops a.tmps) = true)
    (h : ∀ K : Act → World → Prop, (∀ a w, wpList P ops Q rest a w → K a w) → o.wp P a w K Q) : wpList P ops Q (o :: rest) a w :=
  wpList_step fun K hK => by rw [if_pos hw]; exact h K hK
theorem gbuild_run {P : Program} {w : World} {ops : Array Oper} {rest : List Oper} {o : Oper} {a : Act} {Q : Exit → Act → World → Prop} (hw : Region.wanted o (yielded ops a.tmps) = true) (t : TypeId) (parts : Array (Nat × Operand)) (ho : o.op = .build t parts) (vs : Array (Nat × Value)) (hvs : (parts.map fun (i, x) => (i, a.eval x)) = vs) (v : Value) (hrun : (Instr.build t vs).run P w = .ok v w)
    (h : wpList P ops Q rest (a.put o.dst v) w) : wpList P ops Q (o :: rest) a w := by
  subst hvs
  refine wpList_wanted hw fun K hK => ?_
  unfold Oper.wp
  simp only [execOp, ho]
  simp [hrun, Result.andThen]
  exact hK _ _ h
end Go.Proofs.Ytkndlkcbhpfjoaa
