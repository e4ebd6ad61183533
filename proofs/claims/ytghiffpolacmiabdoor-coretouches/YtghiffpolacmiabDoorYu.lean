import Derived.Test.YtghiffpolacmiabDoorXf
import Derived.Test.YtghiffpolacmiabDoorYt
namespace Go.Proofs.YtghiffpolacmiabDoor
open Go.ChangeShapes Go.WideShapes Go.ChangeAt Go.RowKit
set_option linter.unusedVariables false
theorem b22 : Tryd.prog.bytesOf 22 = 4 := by kernel_rfl
theorem nxt_ok (l : List Int) (h : ∀ x ∈ l, (Lit.int .u32 x).wf = true) (i : Nat) : 0 ≤ nxt l i ∧ nxt l i < 4294967296 := by
  unfold nxt
  rw [List.getD_eq_getElem?_getD]
  cases hq : l[min i (l.length - 1)]? with
  | none => exact ⟨by decide, by decide⟩
  | some x => exact wf_u32' (h x (List.mem_of_getElem? hq))
end Go.Proofs.YtghiffpolacmiabDoor
