import Derived.Test.YtfolnmmlhknmiaaGreatDoorZk
namespace Go.Proofs.YtfolnmmlhknmiaaGreatDoor
open Go.ChangeShapes Go.WideShapes Go.ChangeAt Go.RowKit
set_option linter.unusedVariables false

set_option maxHeartbeats 1000000 in
set_option maxRecDepth 10000 in
theorem shape_any (w : World) (a b : Int) (ha : Ent.InI a) (hb : Ent.InI b) :
    Calls Tryz.prog 14 #[.int .i64 a, .int .i64 b] w fun e w' => ∃ sets ways : Nat, e = .returned (.agg #[.int .i64 sets, .int .i64 ways, .int .i64 16]) ∧ Cac.ShOk sets ways 16 ∧ Cac.Pow sets ∧ Chg w w' (fun _ => False) := by
  have hA : ∀ w, Calls Tryz.prog 10 #[.int .i64 a, .int .i64 4] w fun e w' => e = .returned (.int .i64 (pk a 4 : Nat)) ∧ w' = w := fun w => pick_any w a 4 (by omega) (by omega) ha.1 ha.2
  have hB : ∀ w, Calls Tryz.prog 10 #[.int .i64 b, .int .i64 3] w fun e w' => e = .returned (.int .i64 (pk b 3 : Nat)) ∧ w' = w := fun w => pick_any w b 3 (by omega) (by omega) hb.1 hb.2
  have l1 := pk_lt a 4 (by omega)
  have l2 := pk_lt b 3 (by omega)
  generalize pk a 4 = i at *
  generalize pk b 3 = j at *
  obtain ⟨W, hW⟩ : ∃ W, W = w.alloc (.cells #[.int .i64 0, .int .i64 0, .int .i64 0] 33) := ⟨_, rfl⟩
  have HC : Hid (Chg w W (fun _ => False)) := by rw [hW]; exact (Chg.refl w _).alloc _
  have g1 : W.heap[w.heap.size]? = some (.cells #[.int .i64 0, .int .i64 0, .int .i64 0] 33 (0, 0)) := by rw [hW]; exact heap_alloc_new w _
  obtain ⟨d0, d3⟩ := Cac.cells_at g1 0
  obtain ⟨d1, d4⟩ := Cac.cells_at g1 1
  obtain ⟨d2, d5⟩ := Cac.cells_at g1 2
  simp only [List.getElem?_toArray, List.getElem?_cons_zero, List.getElem?_cons_succ] at d0 d1 d2
  clear ha hb
  have hi : i = 0 ∨ i = 1 ∨ i = 2 ∨ i = 3 := by omega
  have hj : j = 0 ∨ j = 1 ∨ j = 2 := by omega
  have HG : Hid (W.heap[w.heap.size]? = some (.cells #[.int .i64 0, .int .i64 0, .int .i64 0] 33 (0, 0))) := g1
  clear g1
  have ej : IntKind.i64.wrap (1 + (j : Int)) = 1 + (j : Int) := by simp [IntKind.wrap, IntKind.bits, IntKind.signed]; omega
  rcases hi with rfl | rfl | rfl | rfl
  · go_enter Tryz.func14, Tryz.ntmps14
    go_upto_region 1 with fail
    rw [← hW]
    clear hW
    go_region_held3 (fun w' => True) (exact trivial) (first | (go_at_call 10; with_reducible refine (hA _).mono ?_; rintro e wz ⟨rfl, hwz⟩; rw [hwz]; clear hwz) | (go_at_call 10; with_reducible refine (hB _).mono ?_; rintro e wz ⟨rfl, hwz⟩; rw [hwz]; clear hwz))
    obtain ⟨V, hV⟩ : ∃ V, V = (((W.setCell ⟨w.heap.size, 0, none⟩ (.int .i64 (IntKind.i64.wrap 1))).setCell ⟨w.heap.size, 1, none⟩ (.int .i64 (1 + (j : Int)))).setCell ⟨w.heap.size, 2, none⟩ (.int .i64 16)).drew := ⟨_, rfl⟩
    have gV : V.heap[w.heap.size]? = some (.cells #[.int .i64 1, .int .i64 (1 + (j : Int)), .int .i64 16] 33 (0, 0)) := by
      rw [hV]
      exact heap_setCell_same _ w.heap.size 2 _ 33 (.int .i64 16) (heap_setCell_same _ w.heap.size 1 _ 33 (.int .i64 (1 + (j : Int))) (heap_setCell_same _ w.heap.size 0 _ 33 (.int .i64 1) HG.out))
    have cV : Chg w V (fun _ => False) := by
      rw [hV]
      exact (((HC.out.setCell (.inr (Nat.le_refl _)) _).setCell (.inr (Nat.le_refl _)) _).setCell (.inr (Nat.le_refl _)) _).drew
    rw [← hV]
    clear hV
    obtain ⟨r0, -⟩ := Cac.cells_at gV 0
    obtain ⟨r1, -⟩ := Cac.cells_at gV 1
    obtain ⟨r2, -⟩ := Cac.cells_at gV 2
    simp only [List.getElem?_toArray, List.getElem?_cons_zero, List.getElem?_cons_succ] at r0 r1 r2
    clear hA hB
    go_wp2
    exact bodyPost_ret (v := .agg #[.int .i64 1, .int .i64 (1 + (j : Int)), .int .i64 16]) (by simp [results, Tryz.results14, go_sem, r0, r1, r2]) rfl ⟨1, 1 + j, rfl, ⟨by omega, by omega, by omega, by omega, by omega, by omega⟩, by unfold Cac.Pow; omega, cV⟩
  · go_enter Tryz.func14, Tryz.ntmps14
    go_upto_region 1 with fail
    rw [← hW]
    clear hW
    go_region_held3 (fun w' => True) (exact trivial) (first | (go_at_call 10; with_reducible refine (hA _).mono ?_; rintro e wz ⟨rfl, hwz⟩; rw [hwz]; clear hwz) | (go_at_call 10; with_reducible refine (hB _).mono ?_; rintro e wz ⟨rfl, hwz⟩; rw [hwz]; clear hwz))
    obtain ⟨V, hV⟩ : ∃ V, V = (((W.setCell ⟨w.heap.size, 0, none⟩ (.int .i64 (IntKind.i64.wrap 2))).setCell ⟨w.heap.size, 1, none⟩ (.int .i64 (1 + (j : Int)))).setCell ⟨w.heap.size, 2, none⟩ (.int .i64 16)).drew := ⟨_, rfl⟩
    have gV : V.heap[w.heap.size]? = some (.cells #[.int .i64 2, .int .i64 (1 + (j : Int)), .int .i64 16] 33 (0, 0)) := by
      rw [hV]
      exact heap_setCell_same _ w.heap.size 2 _ 33 (.int .i64 16) (heap_setCell_same _ w.heap.size 1 _ 33 (.int .i64 (1 + (j : Int))) (heap_setCell_same _ w.heap.size 0 _ 33 (.int .i64 2) HG.out))
    have cV : Chg w V (fun _ => False) := by
      rw [hV]
      exact (((HC.out.setCell (.inr (Nat.le_refl _)) _).setCell (.inr (Nat.le_refl _)) _).setCell (.inr (Nat.le_refl _)) _).drew
    rw [← hV]
    clear hV
    obtain ⟨r0, -⟩ := Cac.cells_at gV 0
    obtain ⟨r1, -⟩ := Cac.cells_at gV 1
    obtain ⟨r2, -⟩ := Cac.cells_at gV 2
    simp only [List.getElem?_toArray, List.getElem?_cons_zero, List.getElem?_cons_succ] at r0 r1 r2
    clear hA hB
    go_wp2
    exact bodyPost_ret (v := .agg #[.int .i64 2, .int .i64 (1 + (j : Int)), .int .i64 16]) (by simp [results, Tryz.results14, go_sem, r0, r1, r2]) rfl ⟨2, 1 + j, rfl, ⟨by omega, by omega, by omega, by omega, by omega, by omega⟩, by unfold Cac.Pow; omega, cV⟩
  · go_enter Tryz.func14, Tryz.ntmps14
    go_upto_region 1 with fail
    rw [← hW]
    clear hW
    go_region_held3 (fun w' => True) (exact trivial) (first | (go_at_call 10; with_reducible refine (hA _).mono ?_; rintro e wz ⟨rfl, hwz⟩; rw [hwz]; clear hwz) | (go_at_call 10; with_reducible refine (hB _).mono ?_; rintro e wz ⟨rfl, hwz⟩; rw [hwz]; clear hwz))
    obtain ⟨V, hV⟩ : ∃ V, V = (((W.setCell ⟨w.heap.size, 0, none⟩ (.int .i64 (IntKind.i64.wrap 4))).setCell ⟨w.heap.size, 1, none⟩ (.int .i64 (1 + (j : Int)))).setCell ⟨w.heap.size, 2, none⟩ (.int .i64 16)).drew := ⟨_, rfl⟩
    have gV : V.heap[w.heap.size]? = some (.cells #[.int .i64 4, .int .i64 (1 + (j : Int)), .int .i64 16] 33 (0, 0)) := by
      rw [hV]
      exact heap_setCell_same _ w.heap.size 2 _ 33 (.int .i64 16) (heap_setCell_same _ w.heap.size 1 _ 33 (.int .i64 (1 + (j : Int))) (heap_setCell_same _ w.heap.size 0 _ 33 (.int .i64 4) HG.out))
    have cV : Chg w V (fun _ => False) := by
      rw [hV]
      exact (((HC.out.setCell (.inr (Nat.le_refl _)) _).setCell (.inr (Nat.le_refl _)) _).setCell (.inr (Nat.le_refl _)) _).drew
    rw [← hV]
    clear hV
    obtain ⟨r0, -⟩ := Cac.cells_at gV 0
    obtain ⟨r1, -⟩ := Cac.cells_at gV 1
    obtain ⟨r2, -⟩ := Cac.cells_at gV 2
    simp only [List.getElem?_toArray, List.getElem?_cons_zero, List.getElem?_cons_succ] at r0 r1 r2
    clear hA hB
    go_wp2
    exact bodyPost_ret (v := .agg #[.int .i64 4, .int .i64 (1 + (j : Int)), .int .i64 16]) (by simp [results, Tryz.results14, go_sem, r0, r1, r2]) rfl ⟨4, 1 + j, rfl, ⟨by omega, by omega, by omega, by omega, by omega, by omega⟩, by unfold Cac.Pow; omega, cV⟩
  · go_enter Tryz.func14, Tryz.ntmps14
    go_upto_region 1 with fail
    rw [← hW]
    clear hW
    go_region_held3 (fun w' => True) (exact trivial) (first | (go_at_call 10; with_reducible refine (hA _).mono ?_; rintro e wz ⟨rfl, hwz⟩; rw [hwz]; clear hwz) | (go_at_call 10; with_reducible refine (hB _).mono ?_; rintro e wz ⟨rfl, hwz⟩; rw [hwz]; clear hwz))
    obtain ⟨V, hV⟩ : ∃ V, V = (((W.setCell ⟨w.heap.size, 0, none⟩ (.int .i64 (IntKind.i64.wrap 8))).setCell ⟨w.heap.size, 1, none⟩ (.int .i64 (1 + (j : Int)))).setCell ⟨w.heap.size, 2, none⟩ (.int .i64 16)).drew := ⟨_, rfl⟩
    have gV : V.heap[w.heap.size]? = some (.cells #[.int .i64 8, .int .i64 (1 + (j : Int)), .int .i64 16] 33 (0, 0)) := by
      rw [hV]
      exact heap_setCell_same _ w.heap.size 2 _ 33 (.int .i64 16) (heap_setCell_same _ w.heap.size 1 _ 33 (.int .i64 (1 + (j : Int))) (heap_setCell_same _ w.heap.size 0 _ 33 (.int .i64 8) HG.out))
    have cV : Chg w V (fun _ => False) := by
      rw [hV]
      exact (((HC.out.setCell (.inr (Nat.le_refl _)) _).setCell (.inr (Nat.le_refl _)) _).setCell (.inr (Nat.le_refl _)) _).drew
    rw [← hV]
    clear hV
    obtain ⟨r0, -⟩ := Cac.cells_at gV 0
    obtain ⟨r1, -⟩ := Cac.cells_at gV 1
    obtain ⟨r2, -⟩ := Cac.cells_at gV 2
    simp only [List.getElem?_toArray, List.getElem?_cons_zero, List.getElem?_cons_succ] at r0 r1 r2
    clear hA hB
    go_wp2
    exact bodyPost_ret (v := .agg #[.int .i64 8, .int .i64 (1 + (j : Int)), .int .i64 16]) (by simp [results, Tryz.results14, go_sem, r0, r1, r2]) rfl ⟨8, 1 + j, rfl, ⟨by omega, by omega, by omega, by omega, by omega, by omega⟩, by unfold Cac.Pow; omega, cV⟩
end Go.Proofs.YtfolnmmlhknmiaaGreatDoor
