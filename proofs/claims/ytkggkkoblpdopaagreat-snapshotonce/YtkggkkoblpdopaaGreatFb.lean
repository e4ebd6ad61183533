import Derived.Test.YtkggkkoblpdopaaGreatRows
import Derived.ProofKit
namespace Go.Proofs.YtkggkkoblpdopaaGreat
open Go.ChangeShapes Go.WideShapes Go.ChangeAt Go.RowKit
set_option maxRecDepth 100000 in
theorem facts_o : joinedFacts Tryz.prog 4 Tryz.f4 Rows.snapshotOnceSpec Rows.snapshotOnceRow = true := by kernel_rfl
end Go.Proofs.YtkggkkoblpdopaaGreat
