import Derived.Test.YtgofjmhdgmfgfaaGreatDoorBi
import Derived.Test.YtgofjmhdgmfgfaaGreatDoorBh
namespace Go.Proofs.YtgofjmhdgmfgfaaGreatDoor
open Go.ChangeShapes Go.WideShapes Go.ChangeAt Go.RowKit
set_option linter.unusedVariables false

set_option maxRecDepth 100000 in
theorem lines_walk (w : World) (h9 : 9 ≤ w.heap.size) (hG : Gs w) (v at_ : Nat) (hv : v < 4294967296) (ha : at_ < 4294967296) :
    Calls Tryz.prog 8 #[.int .u32 v, .int .u32 at_] w fun e w' => e = .returned (.bool true) ∧ Kp w w' := by
  have hK := known_ok w h9 hG
  have hL := fun V (k : Kp w V) => Line_any V (hG.keep k) v at_ hv ha
  have hR := fun V => rLine_any V v at_ hv ha
  generalize lineM v at_ = l at *
  generalize sb l = u at *
  go_enter Tryz.func8, Tryz.ntmps8
  go_wp2_with (first | (go_at_call 9; refine hK.mono ?_; rintro e w1 ⟨rfl, k1⟩) | (go_at_call 10; refine (hL _ k1).mono ?_; rintro e w2 ⟨rfl, k2⟩) | (go_at_call 15; refine (hR _).mono ?_; rintro e w3 ⟨rfl, k3⟩))
  go_ret
  exact ⟨rfl, Kp.trans (Kp.trans k1 k2) k3⟩
end Go.Proofs.YtgofjmhdgmfgfaaGreatDoor
