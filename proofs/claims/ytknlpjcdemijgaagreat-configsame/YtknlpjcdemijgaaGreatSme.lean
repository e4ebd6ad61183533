import Derived.Test.YtknlpjcdemijgaaGreatYo
import Derived.Lib.SlBytesConst
namespace Go.Proofs.YtknlpjcdemijgaaGreat
open Go.ChangeShapes Go.WideShapes Go.ChangeAt Go.RowKit
set_option linter.unusedVariables false
def app (X : WX) (l : List Int) : WX := ⟨⟨X.s.lim, X.s.data ++ l, X.s.ops, X.s.err⟩, X.u⟩
end Go.Proofs.YtknlpjcdemijgaaGreat
namespace Go.Proofs.YtknlpjcdemijgaaGreat
open Go.ChangeShapes Go.WideShapes Go.ChangeAt Go.RowKit
set_option linter.unusedVariables false

def sameB (xs ys : List Int) : Bool := decide (xs = ys)

theorem getD_ne {xs ys : List Int} {k : Nat} (h : xs.getD k 0 ≠ ys.getD k 0) : xs ≠ ys := by rintro rfl; exact h rfl

end Go.Proofs.YtknlpjcdemijgaaGreat
