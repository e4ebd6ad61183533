import Derived.Test.YtjmcimhklmfofabDoorRr
import Derived.Test.YtjmcimhklmfofabDoorKn
namespace Go.Proofs.YtjmcimhklmfofabDoor
open Go.ChangeShapes Go.WideShapes Go.ChangeAt Go.RowKit
set_option linter.unusedVariables false

set_option maxRecDepth 100000 in
set_option maxHeartbeats 4000000 in
theorem texts_walk (w : World) (hG : Gw w) (s : ByteArray) (hs : s.size ≤ 9223372036854775807) : Calls Tryd.prog 3 #[.string s] w fun e w' => e = .returned (.bool true) ∧ Kp w w' := by
  have hK := known_any w hG
  have gG : ∀ V, Kp w V → Gw V := fun V hV => hG.kp hV
  have heq := eql27
  have hrf := sameE_refl
  have cR : ∀ V, Gw V → Calls Tryd.prog 5 #[.string s] V fun e w' => e = .returned (EnE (rde s.data.toList) (lkk s.data.toList) (lkp s.data.toList) (lkf s.data.toList)) ∧ Kp V w' := fun V hV => Read_any s V hV.gl hV.es hs
  have dR : ∀ V, Calls Tryd.prog 6 #[.string s] V fun e w' => e = .returned (EnE (rde s.data.toList) (lkk s.data.toList) (lkp s.data.toList) (lkf s.data.toList)) ∧ Kp V w' := fun V => refRead_any s V hs
  simp only [EnE] at cR dR
  generalize at0 (rde s.data.toList) (lkk s.data.toList) = k at *
  generalize at0 (rde s.data.toList) (lkp s.data.toList) = p at *
  generalize at0 (rde s.data.toList) (lkf s.data.toList) = f at *
  generalize rde s.data.toList = c at *
  go_enter Tryd.func3, Tryd.ntmps3
  go_wp2_with fail
  go_at_call 4
  refine hK.mono ?_
  rintro e w1 ⟨rfl, k1⟩
  go_wp2_with fail
  go_at_call 5
  refine (cR _ (gG _ k1)).mono ?_
  rintro e w2 ⟨rfl, k2⟩
  have kk2 : Kp w w2 := Kp.trans k1 k2
  have g2 := heap_alloc_new w2 (.cells #[.int .i64 k, .int .u8 p, .int .u32 f] 27)
  go_wp2_with fail
  go_at_call 6
  refine (dR _).mono ?_
  rintro e w3 ⟨rfl, k3⟩
  have kk3 : Kp w w3 := Kp.trans (kk2.alloc _) k3
  obtain ⟨c0, c1, c2, _, _, _⟩ := cells3 (al_old (.cells #[.int .i64 k, .int .u8 p, .int .u32 f] 27) (Kp.heap k3 g2))
  go_wp2_with fail
  go_ret
  exact ⟨rfl, kk3.alloc _⟩
end Go.Proofs.YtjmcimhklmfofabDoor
