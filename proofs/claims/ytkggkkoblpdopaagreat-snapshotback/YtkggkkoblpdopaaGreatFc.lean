import Derived.Test.YtkggkkoblpdopaaGreatRows
import Derived.ProofKit
namespace Go.Proofs.YtkggkkoblpdopaaGreat
open Go.ChangeShapes Go.WideShapes Go.ChangeAt Go.RowKit
set_option maxRecDepth 100000 in
theorem facts_b : joinedFacts Tryz.prog 5 Tryz.f5 Rows.snapshotBackSpec Rows.snapshotBackRow = true := by kernel_rfl
end Go.Proofs.YtkggkkoblpdopaaGreat
