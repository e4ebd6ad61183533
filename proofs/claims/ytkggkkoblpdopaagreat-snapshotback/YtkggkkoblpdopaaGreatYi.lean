import Derived.Test.YtkggkkoblpdopaaGreatYh
import Derived.BigRegion
namespace Go.Proofs.YtkggkkoblpdopaaGreat
open Go.ChangeShapes Go.WideShapes Go.ChangeAt Go.RowKit
set_option linter.unusedVariables false
theorem Gi.len {z : Gi} (h : z.ok) : z.cells.length = 34 := by unfold Gi.cells; simp [h.l]
theorem IsSt.kp {w w' : World} {u : Value} {z : Ste} (h : IsSt w u z) (k : Kp w w') : IsSt w' u z := by
 obtain ⟨h1, h2, ba, bc, p1, q1, p2, q2, p3, q3, p4, q4, p5, q5, p6, q6, p7, q7, e, b0, l1, l2, l3, l4, l5, l6, l7⟩ := h
 have c : Ab w.heap.size w w' := k.any
 have hN : w.heap.size ≤ w'.heap.size := k.size
 exact ⟨h1, h2, ba, bc, p1, q1, p2, q2, p3, q3, p4, q4, p5, q5, p6, q6, p7, q7, e, b0.cg c hN, l1.cg hN (fun _ _ _ hb p => p.cg c hN hb), l2.cg hN (fun _ _ _ hb p => ⟨p.1.cg c hb, p.2⟩), l3.cg hN (fun _ _ _ hb p => ⟨p.1.cg c hb, p.2⟩), l4.cg hN (fun _ _ _ hb p => ⟨p.1.cg c hb, p.2⟩), l5.cg hN (fun _ _ _ hb p => p.cg c hN hb), l6.cg hN (fun _ _ _ hb p => p.cg c hN hb), l7.cg hN (fun _ _ _ hb p => ⟨p.1.cg c hb, p.2⟩)⟩
theorem IsSt.arr {w : World} {u : Value} {z : Ste} (h : IsSt w u z) : ∃ C : Array Value, u = .agg C ∧ C.size = 44 := by
 obtain ⟨_, h2, ba, bc, p1, q1, p2, q2, p3, q3, p4, q4, p5, q5, p6, q6, p7, q7, e, _⟩ := h
 refine ⟨_, e, ?_⟩
 simp [steC, Gi.len h2]
end Go.Proofs.YtkggkkoblpdopaaGreat
