import Derived.Test.YtkggkkoblpdopaaGreatRows
import Derived.ProofKit
namespace Go.Proofs.YtkggkkoblpdopaaGreat
open Go.ChangeShapes Go.WideShapes Go.ChangeAt Go.RowKit
set_option maxRecDepth 100000 in
theorem facts_t : joinedFacts Tryz.prog 3 Tryz.f3 Rows.snapshotTurnedSpec Rows.snapshotTurnedRow = true := by kernel_rfl
end Go.Proofs.YtkggkkoblpdopaaGreat
