import Derived.Test.YtjmcimhklmfofaaDoorRg
namespace Go.Proofs.YtjmcimhklmfofaaDoor
open Go.ChangeShapes Go.WideShapes Go.ChangeAt Go.RowKit
set_option linter.unusedVariables false

set_option maxRecDepth 100000 in
set_option maxHeartbeats 4000000 in
theorem words_walk (w : World) (hG : Gw w) (v : Nat) (hv : v < 4294967296) : Calls Tryd.prog 6 #[.int .u32 v] w fun e w' => e = .returned (.bool true) ∧ Kp w w' := by
  have hK := known_any w hG
  have heq := eql27
  have hrf := sameE_refl
  have cD : ∀ V, Calls Tryd.prog 10 #[.int .u32 v] V fun e w' => e = .returned (.tuple #[.agg #[.int .i64 (at0 (de v) (dk v)), .int .u8 (at0 (de v) (dp v)), .int .u32 (at0 (de v) (df v))], .int .i64 (de v)]) ∧ Kp V w' := fun V => Decode_any V v hv
  have cR : ∀ V, Calls Tryd.prog 14 #[.int .u32 v] V fun e w' => e = .returned (.tuple #[.agg #[.int .i64 (at0 (de v) (dk v)), .int .u8 (at0 (de v) (dp v)), .int .u32 (at0 (de v) (df v))], .int .i64 (de v)]) ∧ Kp V w' := fun V => refDecode_any V v hv
  generalize at0 (de v) (dk v) = k at *
  generalize at0 (de v) (dp v) = p at *
  generalize at0 (de v) (df v) = f at *
  generalize de v = c at *
  go_enter Tryd.func6, Tryd.ntmps6
  go_wp2_with fail
  go_at_call 9
  refine hK.mono ?_
  rintro e w1 ⟨rfl, k1⟩
  go_wp2_with fail
  go_at_call 10
  refine (cD _).mono ?_
  rintro e w2 ⟨rfl, k2⟩
  have kk2 : Kp w w2 := Kp.trans k1 k2
  have g2 := heap_alloc_new w2 (.cells #[.int .i64 k, .int .u8 p, .int .u32 f] 27)
  go_wp2_with fail
  go_at_call 14
  refine (cR _).mono ?_
  rintro e w3 ⟨rfl, k3⟩
  have kk3 : Kp w w3 := Kp.trans (kk2.alloc _) k3
  obtain ⟨c0, c1, c2, _, _, _⟩ := cells3 (al_old (.cells #[.int .i64 k, .int .u8 p, .int .u32 f] 27) (Kp.heap k3 g2))
  go_wp2_with fail
  go_ret
  exact ⟨rfl, kk3.alloc _⟩
end Go.Proofs.YtjmcimhklmfofaaDoor
