import Derived.Test.YtkggkkoblpdopaaGreatNk
import Derived.Lib.SlBytesConst
namespace Go.Proofs.YtkggkkoblpdopaaGreat
open Go.ChangeShapes Go.WideShapes Go.ChangeAt Go.RowKit
set_option linter.unusedVariables false

def sameB (xs ys : List Int) : Bool := decide (xs = ys)

theorem getD_ne {xs ys : List Int} {k : Nat} (h : xs.getD k 0 ≠ ys.getD k 0) : xs ≠ ys := by rintro rfl; exact h rfl

end Go.Proofs.YtkggkkoblpdopaaGreat
