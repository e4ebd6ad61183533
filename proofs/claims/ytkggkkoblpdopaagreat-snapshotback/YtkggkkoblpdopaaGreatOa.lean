import Derived.Test.YtkggkkoblpdopaaGreatSme
import Derived.Test.YtkggkkoblpdopaaGreatYg
import Derived.Test.YtkggkkoblpdopaaGreatYi
namespace Go.Proofs.YtkggkkoblpdopaaGreat
open Go.ChangeShapes Go.WideShapes Go.ChangeAt Go.RowKit
set_option linter.unusedVariables false
theorem IsSt.one {w : World} {cs : Array Value} {z : Ste} (h : IsSt w (.agg cs) z) : cs.size = 44 ∧ cs.all (·.oneCell') = true := by
 obtain ⟨_, h2, ba, bc, p1, q1, p2, q2, p3, q3, p4, q4, p5, q5, p6, q6, p7, q7, e, _⟩ := h
 simp only [Value.agg.injEq] at e
 subst e
 refine ⟨by simp [steC, Gi.len h2], ?_⟩
 simp [steC, Gi.cells, Value.oneCell']
end Go.Proofs.YtkggkkoblpdopaaGreat
