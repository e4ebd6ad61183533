import Derived.Test.YtghiffpolacmiabDoorUp
namespace Go.Proofs.YtghiffpolacmiabDoor
open Go.ChangeShapes Go.WideShapes Go.ChangeAt Go.RowKit
set_option linter.unusedVariables false

set_option maxHeartbeats 8000000 in
set_option maxRecDepth 100000 in
theorem deeds_any (w : World) : Calls Tryd.prog 26 #[] w fun e w' => e = .returned (.agg dV) ∧ Kp w w' := by
  have hz := fun w => zero74 w
  have hbu := fun a w => build74 a w
  obtain ⟨w1, hw1⟩ : ∃ w1, w1 = w.alloc (.cells (Array.replicate 49 Value.nilFunc) 77) := ⟨_, rfl⟩
  have k1 : Kp w w1 := by rw [hw1]; exact (Chg.refl w _).alloc _
  have g1 : w1.heap[w.heap.size]? = some (.cells (Array.replicate 49 Value.nilFunc) 77 (0, 0)) := by rw [hw1]; exact heap_alloc_new w _
  have hst := store74 w1 w.heap.size _ 77 g1 (by simp)
  have KE : Hid ((w1.setRow w.heap.size dV).heap[w.heap.size]? = some (.cells dV 77 (0, 0)) ∧ Kp w (w1.setRow w.heap.size dV) ∧ dV.size = 49) := ⟨setRow_heap w1 w.heap.size _ _ 77 (0, 0) g1, Chg.setRow k1 (.inr (Nat.le_refl _)) _, dV_size⟩
  clear g1 k1
  generalize dV = D at *
  generalize Array.replicate 49 Value.nilFunc = Z at *
  subst hw1
  go_enter Tryd.func26, Tryd.ntmps26
  go_upto_region 1 with (first
    | (refine wpList_alloc_zero _ rfl 77 Z rfl (hz _) ?_; simp only [Act.put, List.setIfInBounds_toArray, List.set_cons_zero]))
  go_wp2_with (first
    | (refine wpList_store_row rfl 77 (.tmp 0) (.tmp 1) rfl w.heap.size 0 D rfl rfl _ hst ?_)
    | (refine wpList_build_run rfl 77 dParts (by kernel_rfl) _ rfl (.agg D) (hbu _ _) ?_))
  refine ⟨rfl, .agg D, ?_, rfl, KE.out.2.1⟩
  refine results_cell_row rfl _ _ w.heap.size 77 D (0, 0) _ rfl KE.out.1 Tryd.underlying77 rfl ?_
  rw [KE.out.2.2]; kernel_rfl
end Go.Proofs.YtghiffpolacmiabDoor
